import PyProof.Rows.All
import Wide.All
import OpenK.AllK
import Wide.FinOn
import PyProof.EqAt
import PyProof.EqKinds
import PyProof.TupleCall
import HandS.ForMost
import HandS.ForExc
import HandS.Evl
import HandS.TupAny
import HandS.IsInst
import HandS.Deep
import HandS.Flow
import HandS.Style
import HandS.TupMul
import KE.KExcIs
import HandS.ExcInit
import HandS.ClsMeth
import HandS.ExcField
import HandS.ExcIs
import PySem.Challenge.RW_treestacks_k01_errors
set_option Elab.async false
set_option linter.all false
set_option maxRecDepth 100000
set_option maxHeartbeats 8000000
/-! Values of a program as plain data: what an expression evaluates to, over heaps that grow. -/
namespace Dx
open PySem PySem.Spec PyProof.Rows L2 Evl

/-! ### data that a value stands for -/
mutual
inductive Dd (K : PySem.W.Frag) (H : Hp) : V → PyData → Prop
  | non : Dd K H .non .none
  | bl (b : Bool) : Dd K H (.bl b) (.bool b)
  | int (i : Int) : Dd K H (.int i) (.int i)
  | str (x : Str) : x.length ≤ sizeLine → Dd K H (.str x) (.str x)
  | lst {a : Addr} {xs : List V} {ds : List PyData} : H a = some (.lst xs) → xs.length ≤ sizeLine → DdAll K H xs ds → Dd K H (.ref a) (.list ds)
  | tup {a : Addr} {xs : List V} {ds : List PyData} : SqT K H a xs → xs.length ≤ sizeLine → DdAll K H xs ds → Dd K H (.ref a) (.tuple ds)
inductive DdAll (K : PySem.W.Frag) (H : Hp) : List V → List PyData → Prop
  | nil : DdAll K H [] []
  | cons {v : V} {vs : List V} {d : PyData} {ds : List PyData} : Dd K H v d → DdAll K H vs ds → DdAll K H (v :: vs) (d :: ds)
end
section
variable {K : PySem.W.Frag} {H H' : Hp}
mutual
theorem Dd.mono (e : Ex H H') : ∀ (d : PyData) (v : V), Dd K H v d → Dd K H' v d
  | .none, _, h => by cases h; exact .non
  | .bool b, _, h => by cases h; exact .bl b
  | .int i, _, h => by cases h; exact .int i
  | .str x, _, h => by
    cases h with
    | str _ hl => exact .str x hl
  | .list ds, _, h => by
    cases h with
    | lst hs hl ha => exact .lst (e _ _ hs) hl (DdAll.mono e ds _ ha)
  | .tuple ds, _, h => by
    cases h with
    | tup hs hl ha => exact .tup (ex_t e hs) hl (DdAll.mono e ds _ ha)
  | .dict _, _, h => by cases h
theorem DdAll.mono (e : Ex H H') : ∀ (ds : List PyData) (vs : List V), DdAll K H vs ds → DdAll K H' vs ds
  | [], _, h => by cases h; exact .nil
  | d :: ds, _, h => by
    cases h with
    | cons h1 h2 => exact .cons (Dd.mono e d _ h1) (DdAll.mono e ds _ h2)
end
theorem Dd.up {v : V} {d : PyData} (h : Dd K H v d) (e : Ex H H') : Dd K H' v d := Dd.mono e d v h
theorem DdAll.up {vs : List V} {ds : List PyData} (h : DdAll K H vs ds) (e : Ex H H') : DdAll K H' vs ds := DdAll.mono e ds vs h
mutual
theorem Dd.dp : ∀ (d : PyData) (v : V), Dd K H v d → Dp K H v d
  | .none, _, h => by cases h; exact .non
  | .bool b, _, h => by cases h; exact .bl b
  | .int i, _, h => by cases h; exact .int i
  | .str x, _, h => by
    cases h with
    | str _ hl => exact .str x
  | .list ds, _, h => by
    cases h with
    | lst hs hl ha => exact .lst (sq_of hs) (DdAll.dp ds _ ha)
  | .tuple ds, _, h => by
    cases h with
    | tup hs hl ha => exact .tup hs (DdAll.dp ds _ ha)
  | .dict _, _, h => by cases h
theorem DdAll.dp : ∀ (ds : List PyData) (vs : List V), DdAll K H vs ds → DpAll K H vs ds
  | [], _, h => by cases h; exact .nil
  | d :: ds, _, h => by
    cases h with
    | cons h1 h2 => exact .cons (Dd.dp d _ h1) (DdAll.dp ds _ h2)
end
theorem DdAll.len : ∀ {vs : List V} {ds : List PyData}, DdAll K H vs ds → vs.length = ds.length
  | _, _, .nil => rfl
  | _, _, .cons _ t => by
    rw [List.length_cons, List.length_cons, DdAll.len t]
theorem DdAll.app : ∀ {vs us : List V} {ds es : List PyData}, DdAll K H vs ds → DdAll K H us es → DdAll K H (vs ++ us) (ds ++ es)
  | _, _, _, _, .nil, h => h
  | _, _, _, _, .cons a t, h => .cons a (DdAll.app t h)
theorem DdAll.get : ∀ {vs : List V} {ds : List PyData} {i : Nat} {d : PyData}, DdAll K H vs ds → ds[i]? = some d → ∃ v, vs[i]? = some v ∧ Dd K H v d
  | _, _, _, _, .nil, e => by simp at e
  | _, _, 0, _, .cons a _, e => by
    simp at e
    subst e
    exact ⟨_, rfl, a⟩
  | _, _, i + 1, d, .cons _ t, e => by
    obtain ⟨v, h1, h2⟩ := DdAll.get (i := i) (d := d) t (by simpa using e)
    exact ⟨v, by simpa using h1, h2⟩
theorem DdAll.getv : ∀ {vs : List V} {ds : List PyData} {i : Nat} {v : V}, DdAll K H vs ds → vs[i]? = some v → ∃ d, ds[i]? = some d ∧ Dd K H v d
  | _, _, _, _, .nil, e => by simp at e
  | _, _, 0, _, .cons a _, e => by
    simp at e
    subst e
    exact ⟨_, rfl, a⟩
  | _, _, i + 1, d, .cons _ t, e => by
    obtain ⟨v, h1, h2⟩ := DdAll.getv (i := i) (v := d) t (by simpa using e)
    exact ⟨v, by simpa using h1, h2⟩
theorem DdAll.take : ∀ {vs : List V} {ds : List PyData} (n : Nat), DdAll K H vs ds → DdAll K H (vs.take n) (ds.take n)
  | _, _, 0, _ => .nil
  | _, _, _ + 1, .nil => .nil
  | _, _, n + 1, .cons r t => .cons r (DdAll.take n t)
theorem DdAll.drop : ∀ {vs : List V} {ds : List PyData} (n : Nat), DdAll K H vs ds → DdAll K H (vs.drop n) (ds.drop n)
  | _, _, 0, r => r
  | _, _, _ + 1, .nil => .nil
  | _, _, n + 1, .cons _ t => DdAll.drop n t
theorem DdAll.snoc {vs : List V} {ds : List PyData} {v : V} {d : PyData} (h : DdAll K H vs ds) (g : Dd K H v d) : DdAll K H (vs ++ [v]) (ds ++ [d]) := h.app (.cons g .nil)
theorem DdAll.rev {vs : List V} {ds : List PyData} (h : DdAll K H vs ds) : DdAll K H vs.reverse ds.reverse := by
  induction ds generalizing vs with
  | nil =>
    cases h
    exact .nil
  | cons d ds ih =>
    cases h with
    | cons a t =>
      rw [List.reverse_cons, List.reverse_cons]
      exact (ih t).snoc a
theorem DdAll.rep {vs : List V} {ds : List PyData} (h : DdAll K H vs ds) : ∀ n : Nat, DdAll K H (List.replicate n vs).flatten (List.replicate n ds).flatten
  | 0 => .nil
  | n + 1 => by
    rw [List.replicate_succ, List.replicate_succ, List.flatten_cons, List.flatten_cons]
    exact h.app (DdAll.rep h n)
theorem dd_int {v : V} {i : Int} (h : Dd K H v (.int i)) : v = .int i := by cases h; rfl
theorem dd_bl {v : V} {b : Bool} (h : Dd K H v (.bool b)) : v = .bl b := by cases h; rfl
theorem dd_non {v : V} (h : Dd K H v .none) : v = .non := by cases h; rfl
theorem dd_str {v : V} {x : Str} (h : Dd K H v (.str x)) : v = .str x ∧ x.length ≤ sizeLine := by
  cases h with
  | str _ hl => exact ⟨rfl, hl⟩
theorem dd_tup {v : V} {ds : List PyData} (h : Dd K H v (.tuple ds)) : ∃ a xs, v = .ref a ∧ SqT K H a xs ∧ xs.length ≤ sizeLine ∧ DdAll K H xs ds := by
  cases h with
  | tup hs hl ha => exact ⟨_, _, rfl, hs, hl, ha⟩
theorem dd_lst {v : V} {ds : List PyData} (h : Dd K H v (.list ds)) : ∃ a xs, v = .ref a ∧ H a = some (.lst xs) ∧ xs.length ≤ sizeLine ∧ DdAll K H xs ds := by
  cases h with
  | lst hs hl ha => exact ⟨_, _, rfl, hs, hl, ha⟩
end

mutual
theorem eqv_refl : ∀ d : PyData, d.canLay0 = true → PyData.eqv d d = true
  | .none, _ => by simp [PyData.eqv]
  | .bool b, _ => by simp [PyData.eqv]
  | .int i, _ => by simp [PyData.eqv]
  | .str x, _ => by simp [PyData.eqv]
  | .list ds, h => by
    simp only [PyData.eqv]
    exact eqvAll_refl ds (by simpa [PyData.canLay0] using h)
  | .tuple ds, h => by
    simp only [PyData.eqv]
    exact eqvAll_refl ds (by simpa [PyData.canLay0] using h)
  | .dict _, h => by simp [PyData.canLay0] at h
theorem eqvAll_refl : ∀ ds : List PyData, PyData.canLayAll0 ds = true → PyData.eqvAll ds ds = true
  | [], _ => by simp [PyData.eqvAll]
  | d :: ds, h => by
    have h' : d.canLay0 = true ∧ PyData.canLayAll0 ds = true := by simpa [PyData.canLayAll0] using h
    simp only [PyData.eqvAll]
    rw [eqv_refl d h'.1, eqvAll_refl ds h'.2]
    rfl
end
theorem shaped_lay {d : PyData} (h : SeqAt.shaped d = true) : d.canLay0 = true := SeqAt.canLay_of_shaped h

/-! ### what is changed: objects of M alone; J holds of the heap all the while; B: the part of the heap that data stand in -/
structure Fm where
  M : Addr → Prop
  J : Hp → Prop
  up : ∀ H H', Ex H H' → J H → J H'
  lv : ∀ H a, J H → M a → H a ≠ none
  fr : ∀ H a o, J H → ¬ M a → J (upd H a o)
def Fm.pure : Fm := ⟨fun _ => False, fun _ => True, fun _ _ _ _ => trivial, fun _ _ _ z => z.elim, fun _ _ _ _ _ => trivial⟩
structure Step (M : Addr → Prop) (B H B' H' : Hp) : Prop where
  bb : Ex B B'
  bh : Ex B' H'
  keep : ∀ a o, ¬ M a → H a = some o → H' a = some o
  sep : ∀ a, B a = none → H a ≠ none → B' a = none
  live : ∀ a, H a ≠ none → H' a ≠ none
section
variable {M M' : Addr → Prop} {B H B' H' B2 H2 : Hp} {p : Addr} {o : HO}
theorem Step.refl (e : Ex B H) : Step M B H B H := ⟨Ex.refl B, e, fun _ _ _ h => h, fun _ h _ => h, fun _ h => h⟩
theorem Step.trans (a : Step M B H B' H') (b : Step M B' H' B2 H2) : Step M B H B2 H2 :=
  ⟨a.bb.trans b.bb, b.bh, fun x o n h => b.keep x o n (a.keep x o n h), fun x h n => b.sep x (a.sep x h n) (a.live x n), fun x n => b.live x (a.live x n)⟩
theorem Step.imp (a : Step M B H B' H') (h : ∀ x, M x → M' x) : Step M' B H B' H' := ⟨a.bb, a.bh, fun x o n => a.keep x o fun z => n (h x z), a.sep, a.live⟩
theorem Step.pure (a : Step (fun _ => False) B H B' H') : Step M B H B' H' := a.imp fun _ z => z.elim
theorem Step.ex (a : Step (fun _ => False) B H B' H') : Ex H H' := fun x o h => a.keep x o (fun z => z) h
theorem Step.alloc (e : Ex B H) (hp : H p = none) : Step M B H (upd B p o) (upd H p o) where
  bb := Ex.new (fresh_back e hp)
  bh := fun a u h => by
    by_cases ha : a = p
    · subst ha
      rw [upd_same] at h ⊢
      exact h
    · rw [upd_ne ha] at h ⊢
      exact e a u h
  keep := fun a u _ h => by
    rw [upd_ne (ne_of_none h hp)]
    exact h
  sep := fun a h n => by
    have ha : a ≠ p := fun z => n (z ▸ hp)
    rw [upd_ne ha]
    exact h
  live := fun a n => by
    have ha : a ≠ p := fun z => n (z ▸ hp)
    rw [upd_ne ha]
    exact n
end

/-- the data stand in B, nothing of M among them -/
structure Ok (F : Fm) (B H : Hp) : Prop where
  e : Ex B H
  j : F.J H
  av : ∀ a, F.M a → B a = none
section
variable {F : Fm} {B H B' H' : Hp} {p : Addr} {o : HO}
theorem Ok.next (k : Ok F B H) (s : Step F.M B H B' H') (j : F.J H') : Ok F B' H' := ⟨s.bh, j, fun a m => s.sep a (k.av a m) (F.lv H a k.j m)⟩
theorem Ok.alloc (k : Ok F B H) (hp : H p = none) : Ok F (upd B p o) (upd H p o) := k.next (Step.alloc k.e hp) (F.up _ _ (Ex.new hp) k.j)
theorem Ok.pure (k : Ok F B H) (s : Step (fun _ => False) B H B' H') : Ok F B' H' := k.next s.pure (F.up _ _ s.ex k.j)
theorem Ok.any (e : Ex B H) : Ok Fm.pure B H := ⟨e, trivial, fun _ z => z.elim⟩
end

/-! ### what expressions evaluate to -/
abbrev PV := V → Hp → Prop
def EV (F : Fm) (te : TE) (σ : L2.St) (B : Hp) (P : PV) : Prop := ∀ B1, Ex B B1 → ∀ H, Ok F B1 H → ∀ Q : VK, (∀ v B' H', Step F.M B1 H B' H' → Ok F B' H' → P v B' → Q v H') → te σ H Q
def EVs (F : Fm) (ta : TA) (σ : L2.St) (B : Hp) (P : List V → Hp → Prop) : Prop := ∀ B1, Ex B B1 → ∀ H, Ok F B1 H → ∀ Q : List V → Hp → Prop, (∀ vs B' H', Step F.M B1 H B' H' → Ok F B' H' → P vs B' → Q vs H') → ta σ H Q
def ETt (F : Fm) (tt : TT) (σ : L2.St) (B : Hp) (b : Bool) : Prop := ∀ B1, Ex B B1 → ∀ H, Ok F B1 H → ∀ Q : Bool → Hp → Prop, (∀ B' H', Step F.M B1 H B' H' → Ok F B' H' → Q b H') → tt σ H Q
def DD (K : PySem.W.Frag) (d : PyData) : PV := fun v B => Dd K B v d
def DDs (K : PySem.W.Frag) (ds : List PyData) : List V → Hp → Prop := fun vs B => DdAll K B vs ds
abbrev ED (F : Fm) (K : PySem.W.Frag) (te : TE) (σ : L2.St) (B : Hp) (d : PyData) : Prop := EV F te σ B (DD K d)
abbrev EDs (F : Fm) (K : PySem.W.Frag) (ta : TA) (σ : L2.St) (B : Hp) (ds : List PyData) : Prop := EVs F ta σ B (DDs K ds)
/-- operations on values -/
def RV2 (F : Fm) (r : R2) (B : Hp) (P P' Z : PV) : Prop := ∀ B1, Ex B B1 → ∀ H u v, Ok F B1 H → P u B1 → P' v B1 → ∀ Q : VK, (∀ w B' H', Step F.M B1 H B' H' → Ok F B' H' → Z w B' → Q w H') → r u v H Q
def RVc (F : Fm) (r : List V → Hp → VK → Prop) (B : Hp) (P : List V → Hp → Prop) (Z : PV) : Prop := ∀ B1, Ex B B1 → ∀ H us, Ok F B1 H → P us B1 → ∀ Q : VK, (∀ w B' H', Step F.M B1 H B' H' → Ok F B' H' → Z w B' → Q w H') → r us H Q
abbrev RD2 (F : Fm) (K : PySem.W.Frag) (r : R2) (B : Hp) (x y z : PyData) : Prop := RV2 F r B (DD K x) (DD K y) (DD K z)
abbrev RDc (F : Fm) (K : PySem.W.Frag) (r : List V → Hp → VK → Prop) (B : Hp) (xs : List PyData) (z : PyData) : Prop := RVc F r B (DDs K xs) (DD K z)
/-- stays true in larger heaps -/
def Upc (P : PV) : Prop := ∀ v B B', Ex B B' → P v B → P v B'
def Upcs (P : List V → Hp → Prop) : Prop := ∀ v B B', Ex B B' → P v B → P v B'
section
variable {F : Fm} {K : PySem.W.Frag} {σ : L2.St} {B B' : Hp} {te ta tb tc : TE} {tas : TA} {t u : TT} {d x y z : PyData} {ds : List PyData} {b c : Bool} {P P' Z : PV} {Ps : List V → Hp → Prop}
theorem upc_dd : Upc (DD K d) := fun _ _ _ e h => Dd.up h e
theorem upc_dds : Upcs (DDs K ds) := fun _ _ _ e h => DdAll.up h e
theorem EV.up (h : EV F te σ B P) (e : Ex B B') : EV F te σ B' P := fun B1 e0 H j Q q => h B1 (e.trans e0) H j Q q
theorem EVs.up (h : EVs F tas σ B Ps) (e : Ex B B') : EVs F tas σ B' Ps := fun B1 e0 H j Q q => h B1 (e.trans e0) H j Q q
theorem ETt.up (h : ETt F t σ B b) (e : Ex B B') : ETt F t σ B' b := fun B1 e0 H j Q q => h B1 (e.trans e0) H j Q q
theorem EV.imp (h : EV F te σ B P) (i : ∀ v B1, Ex B B1 → P v B1 → Z v B1) : EV F te σ B Z := fun B1 e0 H j Q q => h B1 e0 H j Q fun v B2 H2 s j2 p => q v B2 H2 s j2 (i v B2 (e0.trans s.bb) p)
theorem ed_is {d' : PyData} (h : ED F K te σ B d) (e : d = d') : ED F K te σ B d' := e ▸ h
theorem et_is {b' : Bool} (h : ETt F t σ B b) (e : b = b') : ETt F t σ B b' := e ▸ h
theorem ev_v {v : V} (hu : Upc P) (h : P v B) : EV F (tC v) σ B P := fun B1 e0 H j Q q => q v B1 H (Step.refl j.e) j (hu v B B1 e0 h)
theorem ev_var {i : Nat} {v : V} (hi : σ[i]? = some (some v)) (hu : Upc P) (h : P v B) : EV F (tVar i) σ B P := fun B1 e0 H j Q q => ⟨v, hi, q v B1 H (Step.refl j.e) j (hu v B B1 e0 h)⟩
theorem ed_var {i : Nat} {v : V} (hi : σ[i]? = some (some v)) (h : Dd K B v d) : ED F K (tVar i) σ B d := ev_var hi upc_dd h
theorem ed_v {v : V} (h : Dd K B v d) : ED F K (tC v) σ B d := ev_v upc_dd h
theorem ed_int {i : Int} : ED F K (tC (.int i)) σ B (.int i) := ed_v (.int i)
theorem ed_bl : ED F K (tC (.bl b)) σ B (.bool b) := ed_v (.bl b)
theorem ed_non : ED F K (tC .non) σ B .none := ed_v .non
theorem ed_str {x : Str} (hl : x.length ≤ sizeLine := by decide) : ED F K (tC (.str x)) σ B (.str x) := ed_v (.str x hl)
theorem evs_nil : EVs F tNil σ B (fun vs _ => vs = []) := fun B1 e0 H j Q q => q [] B1 H (Step.refl j.e) j rfl
theorem evs_cons (hu : Upc P) (h : EV F te σ B P) (hs : EVs F tas σ B Ps) : EVs F (tCons te tas) σ B (fun vs B => ∃ v us, vs = v :: us ∧ P v B ∧ Ps us B) := fun B1 e0 H j Q q =>
  h B1 e0 H j _ fun v B2 H2 s2 j2 p => hs B2 (e0.trans s2.bb) H2 j2 _ fun us B3 H3 s3 j3 ps => q (v :: us) B3 H3 (s2.trans s3) j3 ⟨v, us, rfl, hu v B2 B3 s3.bb p, ps⟩
theorem eds_nil : EDs F K tNil σ B [] := fun B1 e0 H j Q q => q [] B1 H (Step.refl j.e) j .nil
theorem eds_cons (h : ED F K te σ B d) (hs : EDs F K tas σ B ds) : EDs F K (tCons te tas) σ B (d :: ds) := fun B1 e0 H j Q q =>
  h B1 e0 H j _ fun v B2 H2 s2 j2 p => hs B2 (e0.trans s2.bb) H2 j2 _ fun us B3 H3 s3 j3 ps => q (v :: us) B3 H3 (s2.trans s3) j3 (.cons (Dd.up p s3.bb) ps)
/-- a new object -/
theorem EVs.newT (h : EVs F tas σ B Ps) (hl : ∀ vs B1, Ex B B1 → Ps vs B1 → vs.length ≤ sizeLine) (hz : ∀ vs p B1, Ex B B1 → Ps vs B1 → B1 p = none → Z (.ref p) (upd B1 p (.tup vs))) : EV F (tTup tas) σ B Z := fun B1 e0 H j Q q =>
  h B1 e0 H j _ fun vs B2 H2 s2 j2 p => ⟨hl vs B2 (e0.trans s2.bb) p, fun a ha => q (.ref a) _ _ (s2.trans (Step.alloc j2.e ha)) (j2.alloc ha) (hz vs a B2 (e0.trans s2.bb) p (fresh_back s2.bh ha))⟩
theorem EVs.newL (h : EVs F tas σ B Ps) (hl : ∀ vs B1, Ex B B1 → Ps vs B1 → vs.length ≤ sizeLine) (hz : ∀ vs p B1, Ex B B1 → Ps vs B1 → B1 p = none → Z (.ref p) (upd B1 p (.lst vs))) : EV F (tLst tas) σ B Z := fun B1 e0 H j Q q =>
  h B1 e0 H j _ fun vs B2 H2 s2 j2 p => ⟨hl vs B2 (e0.trans s2.bb) p, fun a ha => q (.ref a) _ _ (s2.trans (Step.alloc j2.e ha)) (j2.alloc ha) (hz vs a B2 (e0.trans s2.bb) p (fresh_back s2.bh ha))⟩
theorem ed_tup (h : EDs F K tas σ B ds) (hl : ds.length ≤ 16777216 := by exact Nat.le_of_ble_eq_true rfl) : ED F K (tTup tas) σ B (.tuple ds) := by
  have lz : ∀ (vs : List V) (B1 : Hp), Ex B B1 → DDs K ds vs B1 → vs.length ≤ sizeLine := fun vs B1 _ g => by rw [DdAll.len g, sizeLine_eq]; exact hl
  exact h.newT lz fun vs p B1 e g hp => .tup (st_of upd_same) (lz vs B1 e g) (DdAll.up g (Ex.new hp))
theorem ed_lst (h : EDs F K tas σ B ds) (hl : ds.length ≤ 16777216 := by exact Nat.le_of_ble_eq_true rfl) : ED F K (tLst tas) σ B (.list ds) := by
  have lz : ∀ (vs : List V) (B1 : Hp), Ex B B1 → DDs K ds vs B1 → vs.length ≤ sizeLine := fun vs B1 _ g => by rw [DdAll.len g, sizeLine_eq]; exact hl
  exact h.newL lz fun vs p B1 e g hp => .lst upd_same (lz vs B1 e g) (DdAll.up g (Ex.new hp))
theorem ev_op {r : R2} (ha : EV F ta σ B P) (hb : EV F tb σ B P') (hu : Upc P) (hr : RV2 F r B P P' Z) : EV F (tOp r ta tb) σ B Z := fun B1 e0 H j Q q =>
  ha B1 e0 H j _ fun v B2 H2 s2 j2 h2 => hb B2 (e0.trans s2.bb) H2 j2 _ fun w B3 H3 s3 j3 h3 =>
    hr B3 ((e0.trans s2.bb).trans s3.bb) H3 v w j3 (hu v B2 B3 s3.bb h2) h3 Q fun z B4 H4 s4 j4 h4 => q z B4 H4 ((s2.trans s3).trans s4) j4 h4
theorem ed_op {r : R2} (ha : ED F K ta σ B x) (hb : ED F K tb σ B y) (hr : RD2 F K r B x y z) : ED F K (tOp r ta tb) σ B z := ev_op ha hb upc_dd hr
theorem ev_cb {r : List V → Hp → VK → Prop} (h : EVs F tas σ B Ps) (hr : RVc F r B Ps Z) : EV F (tCB r tas) σ B Z := fun B1 e0 H j Q q =>
  h B1 e0 H j _ fun vs B2 H2 s2 j2 h2 => hr B2 (e0.trans s2.bb) H2 vs j2 h2 Q fun w B3 H3 s3 j3 h3 => q w B3 H3 (s2.trans s3) j3 h3
theorem ev_call {sp : Sp} {E : XK} (h : EVs F tas σ B Ps) (hr : RVc F (fun vs H Q => sp vs H Q E) B Ps Z) : EV F (tCall sp [] E tas) σ B Z := fun B1 e0 H j Q q =>
  h B1 e0 H j _ fun vs B2 H2 s2 j2 h2 => by
    show sp (vs ++ []) H2 Q E
    rw [List.append_nil]
    exact hr B2 (e0.trans s2.bb) H2 vs j2 h2 Q fun w B3 H3 s3 j3 h3 => q w B3 H3 (s2.trans s3) j3 h3
theorem ev_if (h : ETt F t σ B b) (h1 : b = true → EV F ta σ B P) (h2 : b = false → EV F tb σ B P) : EV F (tIf t ta tb) σ B P := fun B1 e0 H j Q q => h B1 e0 H j _ fun B2 H2 s2 j2 => by
  cases b with
  | true =>
    show ta σ H2 Q
    exact h1 rfl B2 (e0.trans s2.bb) H2 j2 Q fun v B3 H3 s3 j3 g => q v B3 H3 (s2.trans s3) j3 g
  | false =>
    show tb σ H2 Q
    exact h2 rfl B2 (e0.trans s2.bb) H2 j2 Q fun v B3 H3 s3 j3 g => q v B3 H3 (s2.trans s3) j3 g
theorem ed_andV (h1 : ED F K ta σ B (.bool b)) (h2 : b = true → ED F K tb σ B (.bool c)) : ED F K (tAndV ta tb) σ B (.bool (b && c)) := fun B1 e0 H j Q q => h1 B1 e0 H j _ fun v B2 H2 s2 j2 g => ⟨b, dd_bl g, by
  cases b with
  | true =>
    show tb σ H2 Q
    exact h2 rfl B2 (e0.trans s2.bb) H2 j2 Q fun v B3 H3 s3 j3 g => q v B3 H3 (s2.trans s3) j3 g
  | false =>
    show Q (.bl false) H2
    exact q _ B2 H2 s2 j2 (.bl false)⟩
theorem ed_orV (h1 : ED F K ta σ B (.bool b)) (h2 : b = false → ED F K tb σ B (.bool c)) : ED F K (tOrV ta tb) σ B (.bool (b || c)) := fun B1 e0 H j Q q => h1 B1 e0 H j _ fun v B2 H2 s2 j2 g => ⟨b, dd_bl g, by
  cases b with
  | true =>
    show Q (.bl true) H2
    exact q _ B2 H2 s2 j2 (.bl true)
  | false =>
    show tb σ H2 Q
    exact h2 rfl B2 (e0.trans s2.bb) H2 j2 Q fun v B3 H3 s3 j3 g => q v B3 H3 (s2.trans s3) j3 g⟩
/-- a < b < c -/
theorem ed_chain {r r' : R2} (ha : ED F K ta σ B x) (hb : ED F K tb σ B y) (hr : RD2 F K r B x y (.bool b)) (h2 : b = true → ∃ z, ED F K tc σ B z ∧ RD2 F K r' B y z (.bool c)) : ED F K (tChain r r' ta tb tc) σ B (.bool (b && c)) := fun B1 e0 H j Q q =>
  ha B1 e0 H j _ fun v B2 H2 s2 j2 h2' => hb B2 (e0.trans s2.bb) H2 j2 _ fun w B3 H3 s3 j3 h3 => hr B3 ((e0.trans s2.bb).trans s3.bb) H3 v w j3 (Dd.up h2' s3.bb) h3 _ fun z B4 H4 s4 j4 h4 => ⟨b, dd_bl h4, by
    cases b with
    | true =>
      obtain ⟨z, hc, hr2⟩ := h2 rfl
      show tc σ H4 _
      exact hc B4 (((e0.trans s2.bb).trans s3.bb).trans s4.bb) H4 j4 _ fun u B5 H5 s5 j5 h5 => hr2 B5 ((((e0.trans s2.bb).trans s3.bb).trans s4.bb).trans s5.bb) H5 w u j5 (Dd.up h3 (s4.bb.trans s5.bb)) h5 Q fun t B6 H6 s6 j6 h6 => q t B6 H6 ((((s2.trans s3).trans s4).trans s5).trans s6) j6 h6
    | false =>
      show Q (.bl false) H4
      exact q _ B4 H4 ((s2.trans s3).trans s4) j4 (.bl false)⟩
theorem ed_notV (h1 : ED F K ta σ B (.bool b)) : ED F K (tNotV ta) σ B (.bool (!b)) := fun B1 e0 H j Q q => h1 B1 e0 H j _ fun v B2 H2 s2 j2 g => ⟨b, dd_bl g, q _ B2 H2 s2 j2 (.bl _)⟩
/-! tests -/
theorem et_cmp (h : ED F K te σ B (.bool b)) : ETt F (tTest te) σ B b := fun B1 e0 H j Q q => h B1 e0 H j _ fun v B2 H2 s2 j2 g => ⟨b, dd_bl g, q B2 H2 s2 j2⟩
theorem et_val (h : ED F K te σ B (.bool b)) : ETt F (tB te) σ B b := fun B1 e0 H j Q q => h B1 e0 H j _ fun v B2 H2 s2 j2 g => ⟨b, dd_bl g, q B2 H2 s2 j2⟩
theorem et_not (h : ETt F t σ B b) : ETt F (tNot t) σ B (!b) := fun B1 e0 H j Q q => h B1 e0 H j _ fun B2 H2 s2 j2 => q B2 H2 s2 j2
theorem et_and (h1 : ETt F t σ B b) (h2 : b = true → ETt F u σ B c) : ETt F (tAnd t u) σ B (b && c) := fun B1 e0 H j Q q => h1 B1 e0 H j _ fun B2 H2 s2 j2 => by
  cases b with
  | true =>
    show u σ H2 Q
    exact h2 rfl B2 (e0.trans s2.bb) H2 j2 Q fun B3 H3 s3 j3 => q B3 H3 (s2.trans s3) j3
  | false =>
    show Q false H2
    exact q B2 H2 s2 j2
theorem et_or (h1 : ETt F t σ B b) (h2 : b = false → ETt F u σ B c) : ETt F (tOr t u) σ B (b || c) := fun B1 e0 H j Q q => h1 B1 e0 H j _ fun B2 H2 s2 j2 => by
  cases b with
  | true =>
    show Q true H2
    exact q B2 H2 s2 j2
  | false =>
    show u σ H2 Q
    exact h2 rfl B2 (e0.trans s2.bb) H2 j2 Q fun B3 H3 s3 j3 => q B3 H3 (s2.trans s3) j3
theorem PW_or3 {t1 t2 t3 : TT} (h1 : ETt F t1 σ B false) (h2 : ETt F t2 σ B false) (h3 : ETt F t3 σ B false) : ETt F (tOr t1 (tOr t2 t3)) σ B false := et_or h1 fun _ => et_or h2 fun _ => h3
/-- a value's truth -/
def tru : PyData → Bool
  | .none => false
  | .bool b => b
  | .int i => i != 0
  | .str x => (x.length : Int) != 0
  | .list ds => !ds.isEmpty
  | .tuple ds => !ds.isEmpty
  | .dict kvs => !kvs.isEmpty
theorem DdAll.emp {K : PySem.W.Frag} {H : Hp} {vs : List V} {ds : List PyData} (h : DdAll K H vs ds) : (!vs.isEmpty) = !ds.isEmpty := by cases h <;> rfl
theorem truV {K : PySem.W.Frag} {H : Hp} {v : V} {d : PyData} (h : Dd K H v d) : TruV K v H (tru d) := by
  cases h with
  | non => exact rfl
  | bl b => exact rfl
  | int i => exact rfl
  | str x hl => exact ⟨hl, rfl⟩
  | lst hs hl ha => exact .inl ⟨_, sq_of hs, (DdAll.emp ha).symm⟩
  | tup hs hl ha => exact .inr (.inl ⟨_, hs, (DdAll.emp ha).symm⟩)
theorem et_tru (h : ED F K te σ B d) : ETt F (fun σ H Q => te σ H fun x H' => ∃ k, TruV K x H' k ∧ Q k H') σ B (tru d) := fun B1 e0 H j Q q => h B1 e0 H j _ fun v B2 H2 s2 j2 g => ⟨tru d, truV (Dd.up g s2.bh), q B2 H2 s2 j2⟩
end

/-! ### operations -/
section
variable {F : Fm} {K : PySem.W.Frag} {B : Hp} {i j : Int} {x y z d : PyData} {ds es xs : List PyData}
/-- an operation that makes nothing -/
theorem rd_of {r : R2} (h : ∀ H u v, Dd K H u x → Dd K H v y → ∃ w, (∀ H', Dd K H' w z) ∧ ∀ Q : VK, Q w H → r u v H Q) : RD2 F K r B x y z := fun B1 e0 H u v jj hu hv Q q => by
  obtain ⟨w, hw, hq⟩ := h H u v (Dd.up hu jj.e) (Dd.up hv jj.e)
  exact hq Q (q w B1 H (Step.refl jj.e) jj (hw B1))
/-- + of ints, texts, lists, tuples -/
def rAddA (K : PySem.W.Frag) : R2 := fun x y H Q => rI0 (fun i j => .int (i + j)) x y H Q ∨ (∃ i j, x = .str i ∧ y = .str j ∧ i.length + j.length ≤ sizeLine ∧ Q (.str (i ++ j)) H) ∨ rCat x y H Q ∨ rCatA K x y H Q
theorem op_addA {X : Cx} : OpR X (binaryOp .Add) (rAddA X.K) := op_add.or (op_add_str.or (op_cat.or op_catA))
theorem rd_add : RD2 F K (rAddA K) B (.int i) (.int j) (.int (i + j)) := rd_of fun H u v hu hv => ⟨.int (i + j), fun _ => .int _, fun Q q => .inl ⟨i, j, dd_int hu, dd_int hv, q⟩⟩
theorem str_app_len (a b : Str) : (a ++ b).length = a.length + b.length := by
  show (a.cps ++ b.cps).size = a.cps.size + b.cps.size
  exact Array.size_append
theorem rd_addS {a b : Str} (hl : a.length + b.length ≤ 16777216) : RD2 F K (rAddA K) B (.str a) (.str b) (.str (a ++ b)) := rd_of fun H u v hu hv =>
  ⟨.str (a ++ b), fun _ => .str _ (by rw [str_app_len, sizeLine_eq]; exact hl), fun Q q => .inr (.inl ⟨a, b, (dd_str hu).1, (dd_str hv).1, by rw [sizeLine_eq]; exact hl, q⟩)⟩
/-- + of lists: what their items are is kept -/
theorem rv_addL {a b : Addr} {vs us : List V} (hl : vs.length + us.length ≤ 16777216) {Z : PV} (hz : ∀ p B1, Ex B B1 → B1 p = none → Z (.ref p) (upd B1 p (.lst (vs ++ us)))) :
    RV2 F (rAddA K) B (fun v B => v = .ref a ∧ B a = some (.lst vs)) (fun v B => v = .ref b ∧ B b = some (.lst us)) Z := fun B1 e0 H u v jj ⟨hu, h1⟩ ⟨hv, h2⟩ Q q =>
  .inr (.inr (.inl ⟨a, b, vs, us, hu, hv, jj.e _ _ h1, jj.e _ _ h2, by rw [sizeLine_eq]; exact hl, fun p hp => q _ _ _ (Step.alloc jj.e hp) (jj.alloc hp) (hz p B1 e0 (fresh_back jj.e hp))⟩))
theorem rd_addL (hl : ds.length + es.length ≤ 16777216) : RD2 F K (rAddA K) B (.list ds) (.list es) (.list (ds ++ es)) := fun B1 e0 H u v jj hu hv Q q => by
  obtain ⟨a, xs, rfl, h1, l1, g1⟩ := dd_lst hu
  obtain ⟨b, ys, rfl, h2, l2, g2⟩ := dd_lst hv
  have hz : xs.length + ys.length ≤ sizeLine := by rw [g1.len, g2.len, sizeLine_eq]; exact hl
  exact .inr (.inr (.inl ⟨a, b, xs, ys, rfl, rfl, jj.e _ _ h1, jj.e _ _ h2, hz, fun p hp => q _ _ _ (Step.alloc jj.e hp) (jj.alloc hp) (.lst upd_same (by rw [List.length_append]; exact hz) ((g1.app g2).up (Ex.new (fresh_back jj.e hp))))⟩))
theorem rd_addT (hl : ds.length + es.length ≤ 16777216) : RD2 F K (rAddA K) B (.tuple ds) (.tuple es) (.tuple (ds ++ es)) := fun B1 e0 H u v jj hu hv Q q => by
  obtain ⟨a, xs, rfl, h1, l1, g1⟩ := dd_tup hu
  obtain ⟨b, ys, rfl, h2, l2, g2⟩ := dd_tup hv
  have hz : xs.length + ys.length ≤ sizeLine := by rw [g1.len, g2.len, sizeLine_eq]; exact hl
  refine .inr (.inr (.inr ⟨a, b, xs, ys, rfl, rfl, ex_t jj.e h1, ex_t jj.e h2, hz, fun e => ?_, fun _ e => ?_, fun _ _ p hp => q _ _ _ (Step.alloc jj.e hp) (jj.alloc hp) (.tup (st_of upd_same) (by rw [List.length_append]; exact hz) ((g1.app g2).up (Ex.new (fresh_back jj.e hp))))⟩))
  · subst e
    cases g1
    exact q _ B1 H (Step.refl jj.e) jj hv
  · subst e
    cases g2
    rw [List.append_nil] at q
    exact q _ B1 H (Step.refl jj.e) jj hu
theorem rd_I0 {g : Int → Int → Int} : RD2 F K (rI0 fun i j => .int (g i j)) B (.int i) (.int j) (.int (g i j)) := rd_of fun H u v hu hv => ⟨.int (g i j), fun _ => .int _, fun Q q => ⟨i, j, dd_int hu, dd_int hv, q⟩⟩
theorem rd_I {C : Int → Int → Prop} {g : Int → Int → Int} (hc : C i j) : RD2 F K (rI C fun i j => .int (g i j)) B (.int i) (.int j) (.int (g i j)) := rd_of fun H u v hu hv => ⟨.int (g i j), fun _ => .int _, fun Q q => ⟨i, j, dd_int hu, dd_int hv, hc, q⟩⟩
theorem rd_sub : RD2 F K (rI0 fun i j => .int (i - j)) B (.int i) (.int j) (.int (i - j)) := rd_I0 (g := fun i j => i - j)
theorem rd_mul (hc : CMul i j) : RD2 F K (rI CMul fun i j => .int (i * j)) B (.int i) (.int j) (.int (i * j)) := rd_I (g := fun i j => i * j) hc
theorem rd_mod (hc : 0 < j) : RD2 F K (rI (fun _ j => 0 < j) fun i j => .int (i % j)) B (.int i) (.int j) (.int (i % j)) := rd_I (C := fun _ j => 0 < j) (g := fun i j => i % j) hc
theorem rd_fdiv (hc : CDiv i j) : RD2 F K (rI CDiv fun i j => .int (i / j)) B (.int i) (.int j) (.int (i / j)) := rd_I (g := fun i j => i / j) hc
theorem rd_pow (hc : CPow i j) : RD2 F K (rI CPow fun i j => .int (i ^ j.toNat)) B (.int i) (.int j) (.int (i ^ j.toNat)) := rd_I (g := fun i j => i ^ j.toNat) hc
theorem rd_cmp {p : Int → Int → Bool} : RD2 F K (rI0 fun i j => .bl (p i j)) B (.int i) (.int j) (.bool (p i j)) := rd_of fun H u v hu hv => ⟨.bl (p i j), fun _ => .bl _, fun Q q => ⟨i, j, dd_int hu, dd_int hv, q⟩⟩
theorem rd_lt : RD2 F K (rI0 fun i j => .bl (decide (i < j))) B (.int i) (.int j) (.bool (decide (i < j))) := rd_cmp (p := fun i j => decide (i < j))
theorem rd_le : RD2 F K (rI0 fun i j => .bl (decide (i ≤ j))) B (.int i) (.int j) (.bool (decide (i ≤ j))) := rd_cmp (p := fun i j => decide (i ≤ j))
theorem rd_gt : RD2 F K (rI0 fun i j => .bl (decide (j < i))) B (.int i) (.int j) (.bool (decide (j < i))) := rd_cmp (p := fun i j => decide (j < i))
theorem rd_ge : RD2 F K (rI0 fun i j => .bl (decide (j ≤ i))) B (.int i) (.int j) (.bool (decide (j ≤ i))) := rd_cmp (p := fun i j => decide (j ≤ i))
theorem rd_eqD (hx : SeqAt.shaped x = true) (hy : SeqAt.shaped y = true) : RD2 F K (rEqD K) B x y (.bool (PyData.eqv x y)) := rd_of fun H u v hu hv => ⟨.bl _, fun _ => .bl _, fun Q q => ⟨x, y, Dd.dp _ _ hu, Dd.dp _ _ hv, hx, hy, q⟩⟩
theorem rd_neD (hx : SeqAt.shaped x = true) (hy : SeqAt.shaped y = true) : RD2 F K (rNeD K) B x y (.bool (!PyData.eqv x y)) := rd_of fun H u v hu hv => ⟨.bl _, fun _ => .bl _, fun Q q => ⟨x, y, Dd.dp _ _ hu, Dd.dp _ _ hv, hx, hy, q⟩⟩
def isNon : PyData → Bool
  | .none => true
  | _ => false
theorem dd_isNon {H : Hp} {v : V} (h : Dd K H v d) : decide (v = .non) = isNon d := by
  cases h <;> first | rfl | exact decide_eq_false (fun z => nomatch z)
theorem rd_isN : RD2 F K (fun x y H Q => y = .non ∧ Q (.bl (decide (x = .non))) H) B x .none (.bool (isNon x)) := rd_of fun H u v hu hv => ⟨.bl (isNon x), fun _ => .bl _, fun Q q => ⟨dd_non hv, by
  show Q (.bl (decide (u = .non))) H
  rw [dd_isNon hu]
  exact q⟩⟩
theorem rd_notN : RD2 F K (fun x y H Q => y = .non ∧ Q (.bl (!decide (x = .non))) H) B x .none (.bool (!isNon x)) := rd_of fun H u v hu hv => ⟨.bl (!isNon x), fun _ => .bl _, fun Q q => ⟨dd_non hv, by
  show Q (.bl (!decide (u = .non))) H
  rw [dd_isNon hu]
  exact q⟩⟩
/-- x[i] -/
theorem atI_data {H : Hp} {vs : List V} (h : DdAll K H vs ds) (e : atI ds i = some d) : ∃ v, atI vs i = some v ∧ Dd K H v d := by
  unfold atI at e ⊢
  rw [h.len]
  obtain ⟨j, e1, e2⟩ := Option.bind_eq_some_iff.mp e
  obtain ⟨v, h1, h2⟩ := h.get e2
  exact ⟨v, by rw [e1]; exact h1, h2⟩
theorem rd_ixT (e : atI ds i = some d) : RD2 F K (rIx K) B (.tuple ds) (.int i) d := fun B1 e0 H u v jj hu hv Q q => by
  obtain ⟨a, xs, rfl, h1, l1, g1⟩ := dd_tup hu
  obtain ⟨w, e2, h2⟩ := atI_data g1 e
  exact .inr (.inl ⟨a, xs, i, w, rfl, dd_int hv, ex_t jj.e h1, e2, q _ B1 H (Step.refl jj.e) jj h2⟩)
theorem rd_ixL (e : atI ds i = some d) : RD2 F K (rIx K) B (.list ds) (.int i) d := fun B1 e0 H u v jj hu hv Q q => by
  obtain ⟨a, xs, rfl, h1, l1, g1⟩ := dd_lst hu
  obtain ⟨w, e2, h2⟩ := atI_data g1 e
  exact .inl ⟨a, xs, i, w, rfl, dd_int hv, sq_of (jj.e _ _ h1), e2, q _ B1 H (Step.refl jj.e) jj h2⟩
theorem rd_ixS {s : Str} {c : Nat} (e : atI s.cps.toList i = some c) : RD2 F K (rIx K) B (.str s) (.int i) (.str ⟨#[c]⟩) := fun B1 e0 H u v jj hu hv Q q => by
  obtain ⟨rfl, hl⟩ := dd_str hu
  exact .inr (.inr ⟨s, i, c, rfl, dd_int hv, hl, e, q _ B1 H (Step.refl jj.e) jj (.str _ (by show 1 ≤ sizeLine; decide))⟩)
/-- calls of built-ins -/
theorem rc_of {r : List V → Hp → VK → Prop} (h : ∀ H u, Dd K H u x → ∃ w, (∀ H', Dd K H' w z) ∧ ∀ Q : VK, Q w H → r [u] H Q) : RDc F K r B [x] z := fun B1 e0 H us jj hu Q q => by
  cases hu with
  | cons a t =>
    cases t
    obtain ⟨w, hw, hq⟩ := h H _ (Dd.up a jj.e)
    exact hq Q (q w B1 H (Step.refl jj.e) jj (hw B1))
def lenD : PyData → Int
  | .str x => (x.length : Nat)
  | .list ds => (ds.length : Nat)
  | .tuple ds => (ds.length : Nat)
  | _ => 0
def hasLen : PyData → Bool
  | .str _ => true
  | .list _ => true
  | .tuple _ => true
  | _ => false
theorem rc_len (h : hasLen x = true) : RDc F K (fun xs H Q => ∃ x n, xs = [x] ∧ LenV K x H n ∧ Q (.int (n : Nat)) H) B [x] (.int (lenD x)) := rc_of fun H u hu => by
  cases hu with
  | str s hl => exact ⟨.int (s.length : Nat), fun _ => .int _, fun Q q => ⟨_, s.length, rfl, ⟨hl, rfl⟩, q⟩⟩
  | @lst a xs ds hs hl ha => exact ⟨.int (ds.length : Nat), fun _ => .int _, fun Q q => ⟨_, ds.length, rfl, .inl ⟨xs, sq_of hs, ha.len.symm⟩, q⟩⟩
  | @tup a xs ds hs hl ha => exact ⟨.int (ds.length : Nat), fun _ => .int _, fun Q q => ⟨_, ds.length, rfl, .inr ⟨xs, hs, ha.len.symm⟩, q⟩⟩
  | _ => cases h
theorem rc_int1 : RDc F K (fun xs H Q => (∃ i, xs = [.int i] ∧ Q (.int i) H) ∨ ∃ k, xs = [.bl k] ∧ Q (.int (if k then 1 else 0)) H) B [.int i] (.int i) := rc_of fun H u hu => by
  cases hu
  exact ⟨.int i, fun _ => .int _, fun Q q => .inl ⟨i, rfl, q⟩⟩
theorem rc_intB {k : Bool} : RDc F K (fun xs H Q => (∃ i, xs = [.int i] ∧ Q (.int i) H) ∨ ∃ k, xs = [.bl k] ∧ Q (.int (if k then 1 else 0)) H) B [.bool k] (.int (if k then 1 else 0)) := rc_of fun H u hu => by
  cases hu
  exact ⟨.int (if k then 1 else 0), fun _ => .int _, fun Q q => .inr ⟨k, rfl, q⟩⟩
theorem rc_abs : RDc F K (fun xs H Q => ∃ i, xs = [.int i] ∧ Q (.int (if i < 0 then -i else i)) H) B [.int i] (.int (if i < 0 then -i else i)) := rc_of fun H u hu => by
  cases hu
  exact ⟨.int _, fun _ => .int _, fun Q q => ⟨i, rfl, q⟩⟩
theorem rc_str (hl : i.natAbs.log2 < 1920) (hz : (toString i : Str).length ≤ 16777216) : RDc F K (fun xs H Q => ∃ i : Int, xs = [.int i] ∧ i.natAbs.log2 < 1920 ∧ Q (.str (toString i)) H) B [.int i] (.str (toString i)) := rc_of fun H u hu => by
  cases hu
  exact ⟨.str _, fun _ => .str _ (by rw [sizeLine_eq]; exact hz), fun Q q => ⟨i, rfl, hl, q⟩⟩
/-- isinstance(x, T), T a built-in class -/
def tyD : PyData → String
  | .none => "NoneType"
  | .bool _ => "bool"
  | .int _ => "int"
  | .str _ => "str"
  | .list _ => "list"
  | .tuple _ => "tuple"
  | .dict _ => "dict"
def isIntD : PyData → Bool
  | .int _ => true
  | .bool _ => true
  | _ => false
def isBoolD : PyData → Bool
  | .bool _ => true
  | _ => false
def isStrD : PyData → Bool
  | .str _ => true
  | _ => false
def isTupD : PyData → Bool
  | .tuple _ => true
  | _ => false
def isLstD : PyData → Bool
  | .list _ => true
  | _ => false
theorem kit_int (d : PyData) : kitB (tyD d) "int" = some (isIntD d) := by
  cases d <;> (dsimp only [tyD, isIntD]; decide +kernel)
theorem kit_bool (d : PyData) : kitB (tyD d) "bool" = some (isBoolD d) := by
  cases d <;> (dsimp only [tyD, isBoolD]; decide +kernel)
theorem kit_str (d : PyData) : kitB (tyD d) "str" = some (isStrD d) := by
  cases d <;> (dsimp only [tyD, isStrD]; decide +kernel)
theorem kit_tup (d : PyData) : kitB (tyD d) "tuple" = some (isTupD d) := by
  cases d <;> (dsimp only [tyD, isTupD]; decide +kernel)
theorem kit_lst (d : PyData) : kitB (tyD d) "list" = some (isLstD d) := by
  cases d <;> (dsimp only [tyD, isLstD]; decide +kernel)
theorem tyX {H : Hp} {v : V} (h : Dd K H v d) : TyX K H v (.type (tyD d)) := by
  cases h with
  | non => exact .base .non
  | bl b => exact .base (.bl b)
  | int i => exact .base (.int i)
  | str x hl => exact .base (.str x)
  | lst hs hl ha => exact .base (.lst hs)
  | tup hs hl ha =>
    rcases hs with (hs | ⟨o, hs⟩) | ⟨o, its, n, hk, hc, _⟩
    · exact .base (.tup hs)
    · exact .fTuple hs
    · exact .kTuple hk hc
theorem ed_isi {σ : L2.St} {te : TE} {T : String} {b : Bool} (h : ED F K te σ B d) (hb : kitB (tyD d) T = some b) : ED F K (tCB (rIsi K) (tCons te (tCons (tC (.ty T)) tNil))) σ B (.bool b) := fun B1 e0 H jj Q q =>
  h B1 e0 H jj _ fun v B2 H2 s2 j2 g => ⟨v, .ty T, _, _, b, rfl, .ty T, tyX (Dd.up g s2.bh), kit_ty hb, q _ B2 H2 s2 j2 (.bl b)⟩
end

/-! ### where a def's body stands: behind the entry (B0, H0), at (B, H) -/
structure At (F : Fm) (B0 H0 B H : Hp) : Prop where
  st : Step F.M B0 H0 B H
  j : Ok F B H
theorem At.start {F : Fm} {B H : Hp} (k : Ok F B H) : At F B H B H := ⟨Step.refl k.e, k⟩
theorem At.next {F : Fm} {B0 H0 B H B1 H1 : Hp} (a : At F B0 H0 B H) (s : Step F.M B H B1 H1) (j : Ok F B1 H1) : At F B0 H0 B1 H1 := ⟨a.st.trans s, j⟩
theorem At.e {F : Fm} {B0 H0 B H : Hp} (a : At F B0 H0 B H) : Ex B H := a.st.bh
section
variable {F : Fm} {K : PySem.W.Frag} {σ : L2.St} {B0 H0 B H : Hp} {te ta tb tc : TE} {tas : TA} {t u : TT} {d x y z : PyData} {ds : List PyData} {b c : Bool} {D : Ends} {tz tu tw : TS} {i : Nat} {P : PV}
theorem sv_asg (a : At F B0 H0 B H) (h : EV F te σ B P) (k : ∀ v B1 H1, Ex B B1 → At F B0 H0 B1 H1 → P v B1 → D.nx (σ.set i (some v)) H1) : tAsg te (gName i) D σ H := h B (Ex.refl B) H a.j _ fun v B1 H1 s j p => k v B1 H1 s.bb (a.next s j) p
theorem qv_asg (a : At F B0 H0 B H) (h : EV F te σ B P) (k : ∀ v B1 H1, Ex B B1 → At F B0 H0 B1 H1 → P v B1 → tz D (σ.set i (some v)) H1) : tSeq (tAsg te (gName i)) tz D σ H := sv_asg (D := { D with nx := tz D }) a h k
theorem qv_drop (a : At F B0 H0 B H) (h : EV F te σ B P) (k : ∀ v B1 H1, Ex B B1 → At F B0 H0 B1 H1 → P v B1 → tz D σ H1) : tSeq (tDrop te) tz D σ H := h B (Ex.refl B) H a.j _ fun v B1 H1 s j p => k v B1 H1 s.bb (a.next s j) p
theorem sv_ret (a : At F B0 H0 B H) (h : EV F te σ B P) (k : ∀ v B1 H1, Ex B B1 → At F B0 H0 B1 H1 → P v B1 → D.rt v H1) : tRet te D σ H := h B (Ex.refl B) H a.j _ fun v B1 H1 s j p => k v B1 H1 s.bb (a.next s j) p
theorem sv_retL (a : At F B0 H0 B H) (h : EDs F K tas σ B ds) (k : ∀ vs B1 H1, Step F.M B H B1 H1 → Ok F B1 H1 → DdAll K B1 vs ds → vs.length ≤ sizeLine ∧ ∀ p, H1 p = none → D.rt (.ref p) (upd H1 p (.lst vs))) : tRet (tLst tas) D σ H := h B (Ex.refl B) H a.j _ fun vs B1 H1 s j g => k vs B1 H1 s j g
theorem sv_if (a : At F B0 H0 B H) (h : ETt F t σ B b) (h1 : b = true → ∀ B1 H1, Ex B B1 → At F B0 H0 B1 H1 → tu D σ H1) (h2 : b = false → ∀ B1 H1, Ex B B1 → At F B0 H0 B1 H1 → tw D σ H1) : tIfS t tu tw D σ H := h B (Ex.refl B) H a.j _ fun B1 H1 s j => by
  cases b with
  | true =>
    show tu D σ H1
    exact h1 rfl B1 H1 s.bb (a.next s j)
  | false =>
    show tw D σ H1
    exact h2 rfl B1 H1 s.bb (a.next s j)
theorem qv_if (a : At F B0 H0 B H) (h : ETt F t σ B b) (h1 : b = true → ∀ B1 H1, Ex B B1 → At F B0 H0 B1 H1 → tu { D with nx := tz D } σ H1) (h2 : b = false → ∀ B1 H1, Ex B B1 → At F B0 H0 B1 H1 → tw { D with nx := tz D } σ H1) : tSeq (tIfS t tu tw) tz D σ H := sv_if (D := { D with nx := tz D }) a h h1 h2
/-- if c: return .. (no else) -/
theorem qv_when (a : At F B0 H0 B H) (h : ETt F t σ B b) (h1 : b = true → ∀ B1 H1, Ex B B1 → At F B0 H0 B1 H1 → tu { D with nx := tz D } σ H1) (h2 : b = false → ∀ B1 H1, Ex B B1 → At F B0 H0 B1 H1 → tz D σ H1) : tSeq (tIfS t tu tNext) tz D σ H := qv_if a h h1 h2
end

/-! ### promises: data in, data out, nothing changed -/
/-- called with data ds that pre lets, it gives data f ds -/
def spF (K : PySem.W.Frag) (pre : List PyData → Prop) (f : List PyData → PyData) : Sp := fun vs H Q _ => ∃ (B : Hp) (ds : List PyData), Ex B H ∧ DdAll K B vs ds ∧ pre ds ∧ ∀ v B' H', Step (fun _ => False) B H B' H' → Dd K B' v (f ds) → Q v H'
theorem rc_F {F : Fm} {K : PySem.W.Frag} {pre : List PyData → Prop} {f : List PyData → PyData} {E : XK} {B : Hp} {ds : List PyData} {z : PyData} (h : pre ds) (e : f ds = z) : RDc F K (fun vs H Q => spF K pre f vs H Q E) B ds z := fun B1 e0 H us jj hu Q q =>
  ⟨B1, ds, jj.e, hu, h, fun v B' H' s g => q v B' H' s.pure (jj.pure s) (by rw [← e]; exact g)⟩
theorem ed_F {F : Fm} {K : PySem.W.Frag} {pre : List PyData → Prop} {f : List PyData → PyData} {E : XK} {B : Hp} {ds : List PyData} {z : PyData} {σ : L2.St} {tas : TA} (ha : EDs F K tas σ B ds) (h : pre ds) (e : f ds = z) : ED F K (tCall (spF K pre f) [] E tas) σ B z := ev_call ha (rc_F h e)
end Dx

/-! Exceptions of own classes that are held as values: made, their fields read, asked by isinstance; G.__init__(self, ..), G an own class over ValueError. -/
namespace Ex
open PySem PySem.Spec PyProof.Rows L2
section
variable {X : Cx} {CX : CXT} {G C : Addr} {mc : Value} {o e : Expr} {es : List Expr} {ta : TA} {te : TE} {g x f : Str} {p1 p2 pos p : Pos}
theorem pe_ginit {pl : Sem Bool} (r : ClX.CRead X.K G mc) (k : PySem.W.findCls X.K (.ref G) mc "__init__" = some (.val (.builtin "ValueError.__init__"))) (hg : Gl X g) (hm : X.mg g = some (.ref G)) (ha : PA X (e :: es) ta)
    (hgd : (g == ("__debug__" : Str)) = false := by decide)
    (hc : eval (.Call (.Attribute (.Name g p1) "__init__" p2) (e :: es) [] pos) X.env = (do
      let ov ← eval (.Name g p1) X.env
      standAt p2.atName
      let (f, first) ← holding [ov] (getMethod ov "__init__" pl)
      callWith pos f first (backTo pos (starEach (e :: es) X.env)) (backToKw pos (keywordEach [] X.env))) := by rfl)
    (he : starEach (e :: es) X.env = (false, eval e X.env) :: starEach es X.env := by rfl) (hpl : (backTo pos (starEach es X.env)).any (·.1) = false := by rfl) :
    PE X (.Call (.Attribute (.Name g p1) "__init__" p2) (e :: es) [] pos) (tVeI X.K ta) := by
  refine ⟨fun pins s σ H Q I h => ?_⟩
  refine PySem.W.methodCall_KW (ld_glob I hg hm ?_ hgd) hc
  refine PySem.W.method_cls I.kIn r.ga (PySem.W.cls_value I.kIn r.rd k rfl ?_)
  show wpAny _ _ (callWith pos (Value.builtin "ValueError.__init__") [] (backTo pos (starEach (e :: es) X.env)) []) _ _ _
  refine PyProof.Rows.callWith_method1 (thn (ha.run pos pins _ σ H _ (I.tok _) h) fun us s1 ⟨vs, H1, I1, r1, a, C, ws, ev, hl, T, ea, q⟩ => ?_) he hpl
  subst ev
  cases r1 with
  | @cons _ u0 _ ur ra rw' =>
    obtain rfl : u0 = Value.ref a := ra
    have hlen : ur.length ≤ sizeLine := by
      rw [← Paired.length rw', sizeLine_eq]
      omega
    exact oinit_ok T I1 ea hlen fun s' J => ⟨.non, H1, J, rfl, q⟩
/-- C(e, ..) as a value, C's own __init__ keeping sp: the exception stands at a -/
def tMkV (C : Addr) (sp : Sp) (dvs : List V) (ta : TA) : TE := fun σ H Q => ta σ H fun vs H1 => vs.length ≤ 1000 ∧ ∀ a, H1 a = none → sp (.ref a :: (vs ++ dvs)) (upd H1 a (exo a C none))
  (fun v H2 => v = .non ∧ Q (.ref a) H2) (fun _ _ _ => False)
theorem pe_mkv {C fI : Addr} {k : Nat} {fd : FuncData} {ps : List Str} {sp : Sp} {ds : List Value} {dvs : List V} (T : OexC X.K C) (iC : PySem.W.findIn X.K (.ref C) "__init__" = some (some (.ref fI))) (tI : PySem.W.typeIn X.K (.ref fI) = some (.type "function"))
    (F1 : FnOk X.prog X.w X.K X.mg X.base CX k fI fd ps sp) (hr : Room (k + 1) X.A) (hb : Binds X.K fd ps ds) (hd : Vals dvs ds) (hx : Passes CX X (fun _ _ _ => False)) (hg : Gl X x) (hm : X.mg x = some (.ref C)) (ha : PA X (e :: es) ta)
    (hdb : (x == ("__debug__" : Str)) = false := by decide) (he : starEach (e :: es) X.env = (false, eval e X.env) :: starEach es X.env := by rfl) (hpl : (backTo pos (starEach es X.env)).any (·.1) = false := by rfl) :
    PE X (.Call (.Name x p) (e :: es) [] pos) (tMkV C sp dvs ta) := by
  refine ⟨fun pins s σ H Q I h => ?_⟩
  obtain ⟨nm, q, N, bs, bm, sn, sub, ab, col, dd, k0, k1, k2, k3, k5, hC, hbm⟩ := T.cls
  refine wpAny_Call_Name_kw (ld_glob I hg hm ?_ hdb)
  refine PySem.W.callWith_K (h₀ := X.base) I.ok.mod.kin T.kC (thn (ha.run pos pins s σ H _ I h) fun us s1 ⟨vs, H1, I1, r1, hz, q1⟩ => ⟨I1.kIn, ?_⟩) he hpl
  show wpAny _ _ (call (.ref C) us) _ _ _
  obtain ⟨hp, g, dr, tk, os⟩ := s1
  have hsz : hp.objs.size ≤ hp.objs.size + 1 := Nat.le_succ _
  have hn : H1 (hp.objs.size + 1) = none := I1.hok.fresh hsz
  have hq := q1 (hp.objs.size + 1) hn
  have kk : ∀ b o, hp.get? b = some o → ((hp.push (PySem.W.kdv_tup us)).push (PySem.HandSPX.excO C hp.objs.size)).get? b = some o := fun b o e => Heap.get?_push_of_some _ (Heap.get?_push_of_some _ e)
  have hget : ((hp.push (PySem.W.kdv_tup us)).push (PySem.HandSPX.excO C hp.objs.size)).get? (hp.objs.size + 1) = some (PySem.HandSPX.excO C hp.objs.size) := by heap_get
  have I2 : Inv X pins σ (upd H1 (hp.objs.size + 1) (exo (hp.objs.size + 1) C none)) ⟨(hp.push (PySem.W.kdv_tup us)).push (PySem.HandSPX.excO C hp.objs.size), g, dr, tk, os⟩ :=
    I1.laid (t' := tk) (a := hp.objs.size + 1) (o := exo (hp.objs.size + 1) C none) (h' := (hp.push (PySem.W.kdv_tup us)).push (PySem.HandSPX.excO C hp.objs.size)) kk hsz (exo_ok hget)
  have r2 : Vals (V.ref (hp.objs.size + 1) :: (vs ++ dvs)) (Value.ref (hp.objs.size + 1) :: (us ++ ds)) := .cons rfl (r1.append hd)
  have hl : (Value.ref (hp.objs.size + 1) :: us ++ ds).length = ps.length := by
    have e := r2.length
    rw [F1.len _ _ _ _ hq] at e
    exact e.symm
  have hus : us.length ≤ sizeLine := by
    rw [← Paired.length r1, sizeLine_eq]
    omega
  refine wpAny_call (PySem.HandSPX.call_own F.excBase_ValueError (fun Y => PySem.HandSPX.refsVE_contains Y bm hbm) (I1.kIn _ _ hC) (PySem.W.looks_findIn I1.kIn iC) (fun self => PySem.W.bind_fn I1.kIn self tI) hus
    (codeAny_mono (F1.run _ X.stack _ _ ⟨Value.ref (hp.objs.size + 1) :: us, []⟩ (Value.ref (hp.objs.size + 1) :: (us ++ ds)) _ _ (fun _ _ _ => False) (hr.make C us []) (I2.env0.make C us []) (hb _ (Value.ref (hp.objs.size + 1) :: us) I2.kIn hl) r2 hq) fun r s' hq' => ?_))
  cases r with
  | error er => exact hx pins σ _ _ er s' I2 hq'
  | ok fl =>
    cases fl with
    | ret u =>
      obtain ⟨v, H2, I3, rv, ev, q2⟩ := I2.after hq'
      subst ev
      exact ⟨rv, ⟨V.ref (hp.objs.size + 1), H2, I3, rfl, q2⟩⟩
    | next => exact False.elim hq'
    | brk => exact False.elim hq'
    | cont => exact False.elim hq'
/-- e.f, e an exception that is held as a value -/
def tOxf (K : PySem.W.Frag) (f : Str) (te : TE) : TE := fun σ H Q => te σ H fun x H1 => ∃ (a C d : Addr) (fs : List (Str × V)) (v : V), x = .ref a ∧ H1 a = some (exo a C (some d)) ∧ H1 d = some (exd d fs) ∧ XfC K C ∧ PySem.W.findIn K (.ref C) f = some none ∧ fs.lookup f = some v ∧ Q v H1
theorem pe_oxf (he : PE X e te) (hb : attributeBase e f X.env (eval e X.env) = eval e X.env := by rfl) : PE X (.Attribute e f pos) (tOxf X.K f te) := by
  refine ⟨fun pins s σ H Q I h => ?_⟩
  refine attr_of hb (thn (he.run pins s σ H _ I h) fun u s1 hh => ?_)
  obtain ⟨x, H1, I1, rx, a, C, dd, fs, v, ex, ea, ed, T, hno, l, q⟩ := hh
  subst ex
  obtain rfl : u = Value.ref a := rx
  obtain ⟨t1, ha⟩ := exo_at I1.hok ea
  obtain ⟨mA, hns, hr⟩ := exd_at I1.hok ed
  obtain ⟨od, ho, hl⟩ := lookIn_ns hns
  obtain ⟨u, hu, ru⟩ := RelO.some_of (v := v) (o := mA f) (by rw [← l]; exact hr f)
  have J : PySem.W.InstAt s1.heap a _ C (some od) := ⟨ha, rfl, rfl, ho⟩
  exact HandSPX.exc_get I1.kIn J T.ga T.gg T.exC (PySem.W.findObj_own T.hdC hno rfl (by rw [hl, hu])) (handed_of ru) ⟨v, H1, I1.tok _, ru, q⟩
/-- what the class C must say, so that isinstance asks its instances rightly -/
structure IsC (K : PySem.W.Frag) (C : Addr) : Prop where
  hc : (PySem.W.clsIn K C).isSome = true
  ha : PySem.W.findIn K (.ref C) "__class__" = some (some (.builtin "object.__class__"))
  hn : PySem.W.specialIn K (.builtin "object.__class__") "__get__" = some (some (.builtin "getset_descriptor.__get__"))
  ht : PySem.W.takesIn K (.builtin "object.__class__") = some true
  hm : PySem.W.mroIn K C (.type "object") = some true
def isCB (K : PySem.W.Frag) (C : Addr) : Bool := (PySem.W.clsIn K C).isSome && (decide (PySem.W.findIn K (.ref C) "__class__" = some (some (.builtin "object.__class__"))) && (decide (PySem.W.specialIn K (.builtin "object.__class__") "__get__" = some (some (.builtin "getset_descriptor.__get__"))) && (decide (PySem.W.takesIn K (.builtin "object.__class__") = some true) && decide (PySem.W.mroIn K C (.type "object") = some true))))
theorem isCB_ok {K : PySem.W.Frag} {C : Addr} (h : isCB K C = true) : IsC K C := by
  obtain ⟨h1, h⟩ := Bool.and_eq_true_iff.mp h
  obtain ⟨h2, h⟩ := Bool.and_eq_true_iff.mp h
  obtain ⟨h3, h⟩ := Bool.and_eq_true_iff.mp h
  obtain ⟨h4, h5⟩ := Bool.and_eq_true_iff.mp h
  exact ⟨h1, of_decide_eq_true h2, of_decide_eq_true h3, of_decide_eq_true h4, of_decide_eq_true h5⟩
/-- isinstance(e, c), e an exception that is held as a value -/
def rIsX (K : PySem.W.Frag) : List V → Hp → VK → Prop := fun xs H Q => ∃ (a C d : Addr) (fs : List (Str × V)) (c : V) (cv : Value) (b : Bool), xs = [.ref a, c] ∧ H a = some (exo a C (some d)) ∧ H d = some (exd d fs) ∧ XfC K C ∧ IsC K C ∧ ClsV c cv ∧ PySem.W.kitOne K (.ref C) cv = some b ∧ Q (.bl b) H
theorem call_isX : CallR X (.builtin "isinstance") (rIsX X.K) := by
  intro pins s σ H xs us Q I r h
  obtain ⟨a, C, d, fs, c, cv, b, rfl, ea, ed, T, Z, hcv, e, q⟩ := h
  obtain ⟨u1, u2, rfl, r1, r2⟩ := vals2 r
  have e2 := hcv.eq r2
  subst e2
  obtain rfl : u1 = Value.ref a := r1
  obtain ⟨t1, ha⟩ := exo_at I.hok ea
  obtain ⟨mA, hns, hr⟩ := exd_at I.hok ed
  obtain ⟨od, ho, hl⟩ := lookIn_ns hns
  have J : PySem.W.InstAt s.heap a _ C (some od) := ⟨ha, rfl, rfl, ho⟩
  exact PySem.W.kia_one (PySem.W.kitx_exc Z.hc T.ga T.gg T.exC Z.ha Z.hn Z.ht Z.hm) I.kIn J e (fun z => nomatch z) fun tk => ⟨.bl b, H, I.tok tk, rfl, q⟩
/-- isinstance(e, c), e the exception that the suite holds (its own dict at d) -/
def rIsS (K : PySem.W.Frag) (D a : Addr) : List V → Hp → VK → Prop := fun xs H Q => ∃ (c : V) (cv : Value) (b : Bool), xs = [.ref a, c] ∧ ClsV c cv ∧ PySem.W.kitOne K (.ref D) cv = some b ∧ Q (.bl b) H
/-- .. with an own dict -/
def rIsSd (K : PySem.W.Frag) (a : Addr) (cls : Value) (d : Option Addr) : List V → Hp → VK → Prop := fun xs H Q => ∃ (D dd : Addr) (fs : List (Str × V)) (c : V) (cv : Value) (b : Bool), xs = [.ref a, c] ∧ cls = .ref D ∧ d = some dd ∧ H dd = some (.xd fs) ∧ XfC K D ∧ IsC K D ∧ ClsV c cv ∧ PySem.W.kitOne K (.ref D) cv = some b ∧ Q (.bl b) H
theorem call_isSd {a : Addr} {oe : Obj} {cls : Value} {d : Option Addr} {pn : List (Addr × Obj)} (hz : Zc cls d oe) (hf : ∃ vs, oe.data = .fields vs) : CallR (X.suite a ((a, oe) :: pn)) (.builtin "isinstance") (rIsSd X.K a cls d) := by
  intro pins s σ H xs us Q I r h
  obtain ⟨D, dd, fs, c, cv, b, rfl, ec, ed, hd, T, Z, hcv, e, q⟩ := h
  obtain ⟨u1, u2, rfl, r1, r2⟩ := vals2 r
  have e2 := hcv.eq r2
  subst e2
  obtain rfl : u1 = Value.ref a := r1
  subst ec
  subst ed
  obtain ⟨hget, _⟩ := I.pin (a, oe) (List.mem_append_left _ List.mem_cons_self)
  obtain ⟨vs, hv⟩ := hf
  have hx : ObjOk X.prog X.w H s.heap dd (.xd fs) := I.hok dd _ hd
  obtain ⟨mA, hns, hr⟩ := hx
  obtain ⟨od, ho, hl⟩ := lookIn_ns hns
  have J : PySem.W.InstAt s.heap a oe D (some od) := ⟨hget, hz.1, by unfold PySem.W.notCls; rw [hv] <;> rfl, by rw [hz.2]; exact ho⟩
  exact PySem.W.kia_one (PySem.W.kitx_exc Z.hc T.ga T.gg T.exC Z.ha Z.hn Z.ht Z.hm) I.kIn J e (fun z => nomatch z) fun tk => ⟨.bl b, H, I.kept (t' := tk) fun _ _ z => z, rfl, q⟩
end
end Ex

/-! Loops and comprehensions over data. -/
namespace Dx
open PySem PySem.Spec PyProof.Rows L2 Evl

/-! ### a list or a tuple walked -/
def iSeq (K : PySem.W.Frag) (tl : TE) : TI := fun σ H R => tl σ H fun x H1 => ∃ a, x = .ref a ∧ (((∃ xs, SqL K H1 a xs) ∧ R (Itl K a) H1) ∨ ((∃ xs, SqT K H1 a xs) ∧ R (Itt K a) H1))
theorem pi_seq {X : Cx} {tg l : Expr} {tl : TE} (hl : PE X l tl) : PI X tg l (iSeq X.K tl) := by
  refine ⟨fun pins s σ H R I h => ?_⟩
  refine thn (hl.run pins s σ H _ I h) fun v s1 ⟨x, H1, I1, r1, q1⟩ => ?_
  obtain ⟨a, e, q⟩ := q1
  subst e
  cases r1
  rcases q with ⟨⟨xs, hq⟩, q⟩ | ⟨⟨xs, hq⟩, q⟩
  · obtain ⟨its, rv, p, hz⟩ := I1.list hq
    refine wpAny_pyIter_list p.isList ?_
    refine ⟨s1.heap.objs.size, [s1.heap.objs.size], _, _, H1, rfl, I1.kept (t' := s1.toks) fun b o e => Heap.get?_push_of_some _ e, turn_list a _, ⟨_, Heap.get?_push_size _ rfl, rfl, rfl⟩, fun b hb => ?_, q⟩
    have e : b = s1.heap.objs.size := by simpa using hb
    subst e
    exact I1.fpOk (Nat.le_refl _) (I1.hok.fresh (Nat.le_refl _))
  · obtain ⟨its, rv, p, hz⟩ := I1.tuple hq
    refine wpAny_pyIter_tuple (show s1.heap.IsTuple a its.toArray from p) ?_
    refine ⟨s1.heap.objs.size, [s1.heap.objs.size], _, _, H1, rfl, I1.kept (t' := s1.toks) fun b o e => Heap.get?_push_of_some _ e, turn_tuple a _, ⟨_, Heap.get?_push_size _ rfl, rfl, rfl⟩, fun b hb => ?_, q⟩
    have e : b = s1.heap.objs.size := by simpa using hb
    subst e
    exact I1.fpOk (Nat.le_refl _) (I1.hok.fresh (Nat.le_refl _))
/-- a value that is a list or tuple of items of which Ps holds -/
def SqV (K : PySem.W.Frag) (Ps : List V → Hp → Prop) : PV := fun v B => ∃ l vs, v = .ref l ∧ (SqL K B l vs ∨ SqT K B l vs) ∧ Ps vs B
theorem sqv_lst {K : PySem.W.Frag} {B : Hp} {v : V} {ds : List PyData} (h : Dd K B v (.list ds)) : SqV K (DDs K ds) v B := by
  obtain ⟨a, xs, rfl, h1, l1, g1⟩ := dd_lst h
  exact ⟨a, xs, rfl, .inl (sq_of h1), g1⟩
theorem sqv_tup {K : PySem.W.Frag} {B : Hp} {v : V} {ds : List PyData} (h : Dd K B v (.tuple ds)) : SqV K (DDs K ds) v B := by
  obtain ⟨a, xs, rfl, h1, l1, g1⟩ := dd_tup h
  exact ⟨a, xs, rfl, .inr h1, g1⟩

section
variable {F : Fm} {K : PySem.W.Frag} {σ : L2.St} {B0 H0 B H : Hp} {D : Ends} {tb tz : TS} {tl te : TE} {tt : TT} {j : Nat} {ds : List PyData} {Ps : List V → Hp → Prop}
theorem ev_seqL (h : ED F K tl σ B (.list ds)) : EV F tl σ B (SqV K (DDs K ds)) := h.imp fun _ _ _ p => sqv_lst p
theorem ev_seqT (h : ED F K tl σ B (.tuple ds)) : EV F tl σ B (SqV K (DDs K ds)) := h.imp fun _ _ _ p => sqv_tup p
/-- where a loop's turn stands -/
def Lp (F : Fm) (B0 H0 B : Hp) (I : L2.St → Hp → Prop) : L2.St → Hp → Prop := fun σ' H' => ∃ B', Ex B B' ∧ At F B0 H0 B' H' ∧ I σ' B'
theorem sv_for (a : At F B0 H0 B H) (h : EV F tl σ B (SqV K Ps)) (n : Nat) (hn : ∀ vs B1, Ps vs B1 → vs.length = n) (hu : Upcs Ps) (I : Nat → L2.St → Hp → Prop) (h0 : ∀ B1, Ex B B1 → I 0 σ B1)
    (hs : ∀ Bb i v vs σ' B1 H1, Ex B Bb → vs[i]? = some v → Ps vs B1 → Ex Bb B1 → At F B0 H0 B1 H1 → I i σ' B1 → tb { D with nx := Lp F B0 H0 Bb (I (i + 1)), ct := Lp F B0 H0 Bb (I (i + 1)), bk := D.nx } (σ'.set j (some v)) H1)
    (hd : ∀ σ' B1 H1, Ex B B1 → At F B0 H0 B1 H1 → I n σ' B1 → D.nx σ' H1) : tFor (iSeq K tl) (gName j) tb D σ H := by
  refine h B (Ex.refl B) H a.j _ fun v B1 H1 s1 j1 p => ?_
  obtain ⟨l, vs, rfl, hl, ps⟩ := p
  have a1 := a.next s1 j1
  have en := hn vs B1 ps
  refine ⟨l, rfl, ?_⟩
  rcases hl with hl | hl
  · refine .inl ⟨⟨vs, ex_l j1.e hl⟩, for_list (K := K) (xs := vs) (fun i => Lp F B0 H0 B1 (I i)) ⟨B1, Ex.refl B1, a1, h0 B1 s1.bb⟩ (fun i σ' H' _ ⟨B', e, a', _⟩ => ex_l a'.e (ex_l e hl)) (fun i x σ' H' hx ⟨B', e, a', hi⟩ => ?_) (fun σ' H' ⟨B', e, a', hi⟩ => hd σ' B' H' (s1.bb.trans e) a' (en ▸ hi))⟩
    exact hs B1 i x vs σ' B' H' s1.bb hx (hu _ _ _ e ps) e a' hi
  · refine .inr ⟨⟨vs, ex_t j1.e hl⟩, for_tup (K := K) (xs := vs) (fun i => Lp F B0 H0 B1 (I i)) ⟨B1, Ex.refl B1, a1, h0 B1 s1.bb⟩ (fun i σ' H' _ ⟨B', e, a', _⟩ => ex_t a'.e (ex_t e hl)) (fun i x σ' H' hx ⟨B', e, a', hi⟩ => ?_) (fun σ' H' ⟨B', e, a', hi⟩ => hd σ' B' H' (s1.bb.trans e) a' (en ▸ hi))⟩
    exact hs B1 i x vs σ' B' H' s1.bb hx (hu _ _ _ e ps) e a' hi
theorem qv_for (a : At F B0 H0 B H) (h : EV F tl σ B (SqV K Ps)) (n : Nat) (hn : ∀ vs B1, Ps vs B1 → vs.length = n) (hu : Upcs Ps) (I : Nat → L2.St → Hp → Prop) (h0 : ∀ B1, Ex B B1 → I 0 σ B1)
    (hs : ∀ Bb i v vs σ' B1 H1, Ex B Bb → vs[i]? = some v → Ps vs B1 → Ex Bb B1 → At F B0 H0 B1 H1 → I i σ' B1 → tb { D with nx := Lp F B0 H0 Bb (I (i + 1)), ct := Lp F B0 H0 Bb (I (i + 1)), bk := tz D } (σ'.set j (some v)) H1)
    (hd : ∀ σ' B1 H1, Ex B B1 → At F B0 H0 B1 H1 → I n σ' B1 → tz D σ' H1) : tSeq (tFor (iSeq K tl) (gName j) tb) tz D σ H := sv_for (D := { D with nx := tz D }) a h n hn hu I h0 hs hd
/-- over data -/
theorem qd_for (a : At F B0 H0 B H) (h : EV F tl σ B (SqV K (DDs K ds))) (I : Nat → L2.St → Hp → Prop) (h0 : ∀ B1, Ex B B1 → I 0 σ B1)
    (hs : ∀ Bb i v d σ' B1 H1, Ex B Bb → ds[i]? = some d → Dd K B1 v d → Ex Bb B1 → At F B0 H0 B1 H1 → I i σ' B1 → tb { D with nx := Lp F B0 H0 Bb (I (i + 1)), ct := Lp F B0 H0 Bb (I (i + 1)), bk := tz D } (σ'.set j (some v)) H1)
    (hd : ∀ σ' B1 H1, Ex B B1 → At F B0 H0 B1 H1 → I ds.length σ' B1 → tz D σ' H1) : tSeq (tFor (iSeq K tl) (gName j) tb) tz D σ H :=
  qv_for a h ds.length (fun vs B1 p => DdAll.len p) upc_dds I h0 (fun Bb i v vs σ' B1 H1 e0 hv ps e a' hi => by
    obtain ⟨d, h1, h2⟩ := DdAll.getv (show DdAll K B1 vs ds from ps) hv
    exact hs Bb i v d σ' B1 H1 e0 h1 h2 e a' hi) hd
/-- over range(n) -/
theorem qd_forR {ta : TA} {n : Int} (a : At F B0 H0 B H) (h : EDs F K ta σ B [.int n]) (hn : -4611686018427387904 ≤ n ∧ n < 4611686018427387904) (I : Nat → L2.St → Hp → Prop) (h0 : ∀ B1, Ex B B1 → I 0 σ B1)
    (hs : ∀ Bb (i : Nat) σ' B1 H1, Ex B Bb → (i : Int) < n → Ex Bb B1 → At F B0 H0 B1 H1 → I i σ' B1 → tb { D with nx := Lp F B0 H0 Bb (I (i + 1)), ct := Lp F B0 H0 Bb (I (i + 1)), bk := tz D } (σ'.set j (some (.int (i : Int)))) H1)
    (hd : ∀ σ' B1 H1, Ex B B1 → At F B0 H0 B1 H1 → I n.toNat σ' B1 → tz D σ' H1) : tSeq (tFor (iRng1 ta) (gName j) tb) tz D σ H := by
  refine h B (Ex.refl B) H a.j _ fun vs B1 H1 s1 j1 p => ?_
  have a1 := a.next s1 j1
  cases p with
  | cons p t =>
    cases t
    obtain rfl := dd_int p
    refine ⟨n, rfl, hn.1, hn.2, for_range (lo := 0) (n := n.toNat) (D := { D with nx := tz D }) (fun i => Lp F B0 H0 B1 (I i)) ⟨B1, Ex.refl B1, a1, h0 B1 s1.bb⟩ (fun i σ' H' hx ⟨B', e, a', hi⟩ => ?_) (fun σ' H' ⟨B', e, a', hi⟩ => hd σ' B' H' (s1.bb.trans e) a' hi)⟩
    have e0 : (0 : Int) + (i : Int) = (i : Int) := Int.zero_add _
    show tb _ (σ'.set j (some (.int ((0 : Int) + (i : Int))))) H'
    rw [e0]
    exact hs B1 i σ' B' H' s1.bb (by omega) e a' hi
/-- while -/
theorem qv_while {t : TT} (a : At F B0 H0 B H) (W : Nat → L2.St → Hp → Prop) (m0 : Nat) (h0 : W m0 σ B)
    (hs : ∀ m σ' B1 H1, Ex B B1 → At F B0 H0 B1 H1 → W m σ' B1 → ∃ b, ETt F t σ' B1 b ∧ (b = true → ∀ B2 H2, Ex B1 B2 → At F B0 H0 B2 H2 → tb { D with nx := fun σ2 H3 => ∃ m', m' < m ∧ Lp F B0 H0 B (W m') σ2 H3, ct := fun σ2 H3 => ∃ m', m' < m ∧ Lp F B0 H0 B (W m') σ2 H3, bk := tz D } σ' H2) ∧
      (b = false → ∀ B2 H2, Ex B1 B2 → At F B0 H0 B2 H2 → tz D σ' H2)) : tSeq (tWhile t tb) tz D σ H := by
  refine ⟨fun m => Lp F B0 H0 B (W m), ⟨m0, B, Ex.refl B, a, h0⟩, fun m σ' H' ⟨B1, e, a1, hw⟩ => ?_⟩
  obtain ⟨b, hb, h1, h2⟩ := hs m σ' B1 H' e a1 hw
  refine hb B1 (Ex.refl B1) H' a1.j _ fun B2 H2 s2 j2 => ?_
  cases b with
  | true => exact ⟨_, fun σ2 H3 q => q, h1 rfl B2 H2 s2.bb (a1.next s2 j2)⟩
  | false => exact h2 rfl B2 H2 s2.bb (a1.next s2 j2)
end

/-! ### comprehensions -/
section
variable {F : Fm} {K : PySem.W.Frag} {σ : L2.St} {B : Hp} {tl te : TE} {tt : TT} {j : Nat} {ds : List PyData} {vsN : List Nat}
/-- the list that grows at Dl; B1, H1: ahead of it -/
def Cq (F : Fm) (K : PySem.W.Frag) (B1 H1 : Hp) (Dl : Addr) (ds : List PyData) (H' : Hp) : Prop := ∃ B' acc, Step F.M B1 H1 B' H' ∧ Ok F B' H' ∧ B' Dl = none ∧ H' Dl = some (.lst acc) ∧ DdAll K B' acc ds
theorem cq_start {B1 H1 : Hp} {Dl : Addr} (k : Ok F B1 H1) (hD : H1 Dl = none) : Cq F K B1 H1 Dl [] (upd H1 Dl (.lst [])) := by
  have hb : B1 Dl = none := fresh_back k.e hD
  have s : Step F.M B1 H1 B1 (upd H1 Dl (.lst [])) := ⟨Ex.refl B1, fun a o h => by rw [upd_ne (ne_of_none h hb)]; exact k.e a o h, fun a o _ h => by rw [upd_ne (ne_of_none h hD)]; exact h, fun a h _ => h, fun a n => by
    have ha : a ≠ Dl := fun z => n (z ▸ hD)
    rw [upd_ne ha]
    exact n⟩
  exact ⟨B1, [], s, k.next s (F.up _ _ (Ex.new hD) k.j), hb, upd_same, .nil⟩
/-- one item more -/
theorem cq_more {B1 H1 B' H' : Hp} {Dl : Addr} {acc : List V} {d : PyData} {ds : List PyData} {y : V} (hD : H1 Dl = none) (k1 : Ok F B1 H1) (s : Step F.M B1 H1 B' H') (k : Ok F B' H') (hb : B' Dl = none) (hd : H' Dl = some (.lst acc)) (ha : DdAll K B' acc ds) (hy : Dd K B' y d) :
    Cq F K B1 H1 Dl (ds ++ [d]) (upd H' Dl (.lst (acc ++ [y]))) := by
  have nm : ¬ F.M Dl := fun m => F.lv H1 Dl k1.j m hD
  have s2 : Step F.M B1 H1 B' (upd H' Dl (.lst (acc ++ [y]))) := ⟨s.bb, fun a o h => by rw [upd_ne (ne_of_none h hb)]; exact k.e a o h, fun a o n h => by rw [upd_ne (ne_of_none h hD)]; exact s.keep a o n h, s.sep, fun a n => by
    have ha : a ≠ Dl := fun z => n (z ▸ hD)
    rw [upd_ne ha]
    exact s.live a n⟩
  have j2 : F.J (upd H' Dl (.lst (acc ++ [y]))) := by
    -- J holds of H' and of what stands in it: the new list is none of M
    exact F.fr H' Dl _ k.j nm
  exact ⟨B', acc ++ [y], s2, k1.next s2 j2, hb, upd_same, ha.snoc hy⟩
/-- what stands is data -/
theorem cq_done {B1 H1 H' : Hp} {Dl : Addr} {ds : List PyData} (k1 : Ok F B1 H1) (hD : H1 Dl = none) (hl : ds.length ≤ 16777216) (c : Cq F K B1 H1 Dl ds H') : ∃ B2, Step F.M B1 H1 B2 H' ∧ Ok F B2 H' ∧ Dd K B2 (.ref Dl) (.list ds) := by
  obtain ⟨B', acc, s, k, hb, hd, ha⟩ := c
  have s2 : Step F.M B1 H1 (upd B' Dl (.lst acc)) H' := ⟨s.bb.trans (Ex.new hb), fun a o h => by
    by_cases e : a = Dl
    · subst e
      rw [upd_same] at h
      rw [hd]
      exact h
    · rw [upd_ne e] at h
      exact k.e a o h, s.keep, fun a h n => by
    have e : a ≠ Dl := fun z => n (z ▸ hD)
    rw [upd_ne e]
    exact s.sep a h n, s.live⟩
  exact ⟨_, s2, k1.next s2 k.j, .lst upd_same (by rw [ha.len, sizeLine_eq]; exact hl) (ha.up (Ex.new hb))⟩
/-- one turn, with its test -/
theorem cq_turn {B1 H1 H' : Hp} {Dl : Addr} {acc0 : List PyData} {σ2 : L2.St} {bb : Bool} {d : PyData} (k1 : Ok F B1 H1) (hD : H1 Dl = none) (hl : acc0.length < 16777216) (c : Cq F K B1 H1 Dl acc0 H')
    (ht : ∀ B', Ex B1 B' → ETt F tt σ2 B' bb) (he : bb = true → ∀ B', Ex B1 B' → ED F K te σ2 B' d) :
    tt σ2 H' fun b H3 => if b = true then te σ2 H3 fun y H4 => ∃ acc, H4 Dl = some (.lst acc) ∧ acc.length < sizeLine ∧ Cq F K B1 H1 Dl (acc0 ++ (if bb = true then [d] else [])) (upd H4 Dl (.lst (acc ++ [y]))) else Cq F K B1 H1 Dl (acc0 ++ (if bb = true then [d] else [])) H3 := by
  obtain ⟨B', acc, s, k, hb, hd, ha⟩ := c
  have nm : ¬ F.M Dl := fun m => F.lv H1 Dl k1.j m hD
  have lv : H' Dl ≠ none := by
    rw [hd]
    exact fun z => nomatch z
  refine ht B' s.bb B' (Ex.refl B') H' k _ fun B3 H3 s3 k3 => ?_
  have hb3 := s3.sep Dl hb lv
  have hd3 := s3.keep Dl _ nm hd
  cases bb with
  | true =>
    show te σ2 H3 _
    refine he rfl B3 (s.bb.trans s3.bb) B3 (Ex.refl B3) H3 k3 _ fun y B4 H4 s4 k4 g => ?_
    have lv3 : H3 Dl ≠ none := s3.live Dl lv
    refine ⟨acc, s4.keep Dl _ nm hd3, ?_, ?_⟩
    · rw [ha.len, sizeLine_eq]
      exact hl
    · exact cq_more hD k1 ((s.trans s3).trans s4) k4 (s4.sep Dl hb3 lv3) (s4.keep Dl _ nm hd3) (ha.up (s3.bb.trans s4.bb)) g
  | false =>
    show Cq F K B1 H1 Dl (acc0 ++ []) H3
    rw [List.append_nil]
    exact ⟨B3, acc, s.trans s3, k3, hb3, hd3, ha.up s3.bb⟩
theorem filter_snoc {α : Type} (p : α → Bool) (g : α → PyData) (l : List α) (x : α) : ((l ++ [x]).filter p).map g = (l.filter p).map g ++ (if p x = true then [g x] else []) := by
  rw [List.filter_append, List.map_append]
  congr 1
  by_cases h : p x = true
  · rw [if_pos h, List.filter_cons, if_pos h]
    rfl
  · rw [if_neg h, List.filter_cons, if_neg h]
    rfl
theorem take_snoc {α : Type} {l : List α} {i : Nat} {x : α} (h : l[i]? = some x) : l.take (i + 1) = l.take i ++ [x] := by
  rw [List.take_add_one, h]
  rfl
/-- [te for x in a list or tuple of data if tt] -/
theorem ed_lcD (p : PyData → Bool) (g : PyData → PyData) (h : EV F tl σ B (SqV K (DDs K ds))) (hz : ds.length ≤ 16777216) (hw : ∀ x, wipe ((wipe σ vsN).set j (some x)) vsN = wipe σ vsN)
    (ht : ∀ d v B1, d ∈ ds → Ex B B1 → Dd K B1 v d → ETt F tt ((wipe σ vsN).set j (some v)) B1 (p d))
    (he : ∀ d v B1, d ∈ ds → p d = true → Ex B B1 → Dd K B1 v d → ED F K te ((wipe σ vsN).set j (some v)) B1 (g d)) :
    ED F K (tLc (iSeq K tl) (gName j) tt te vsN) σ B (.list ((ds.filter p).map g)) := fun B0 e0 H0 k0 Q q => by
  refine h B0 e0 H0 k0 _ fun v B1 H1 s1 k1 pv => ?_
  obtain ⟨l, vs, rfl, hl, ps⟩ := pv
  have ps' : DdAll K B1 vs ds := ps
  have en := ps'.len
  have fl : ∀ i, ((ds.take i).filter p).length ≤ i := fun i => Nat.le_trans (List.length_filter_le _ _) (by rw [List.length_take]; exact Nat.min_le_left _ _)
  have turn : ∀ (Dl : Addr), H1 Dl = none → ∀ i x H', vs[i]? = some x → Cq F K B1 H1 Dl (((ds.take i).filter p).map g) H' → gName j x (wipe σ vsN) H' fun σ2 H2 => wipe σ2 vsN = wipe σ vsN ∧ tt σ2 H2 fun b H3 =>
      if b = true then te σ2 H3 fun y H4 => ∃ acc, H4 Dl = some (.lst acc) ∧ acc.length < sizeLine ∧ Cq F K B1 H1 Dl (((ds.take (i + 1)).filter p).map g) (upd H4 Dl (.lst (acc ++ [y]))) else Cq F K B1 H1 Dl (((ds.take (i + 1)).filter p).map g) H3 := by
    intro Dl hD i x H' hx c
    obtain ⟨d, hd, hdv⟩ := ps'.getv hx
    have hm : d ∈ ds := List.mem_of_getElem? hd
    have hi : i < ds.length := (List.getElem?_eq_some_iff.mp hd).1
    refine ⟨hw x, ?_⟩
    rw [take_snoc hd, filter_snoc]
    exact cq_turn k1 hD (by rw [List.length_map]; exact Nat.lt_of_le_of_lt (fl i) (by omega)) c (fun B' e => ht d x B' hm ((e0.trans s1.bb).trans e) (hdv.up e)) (fun hp B' e => he d x B' hm hp ((e0.trans s1.bb).trans e) (hdv.up e))
  have fin : ∀ (Dl : Addr), H1 Dl = none → ∀ H', Cq F K B1 H1 Dl (((ds.take vs.length).filter p).map g) H' → Q (.ref Dl) H' := by
    intro Dl hD H' c
    rw [en, List.take_length] at c
    obtain ⟨B2, s2, k2, g2⟩ := cq_done k1 hD (by rw [List.length_map]; exact Nat.le_trans (List.length_filter_le _ _) hz) c
    exact q _ B2 H' (s1.trans s2) k2 g2
  refine ⟨l, rfl, ?_⟩
  rcases hl with hl | hl
  · refine .inl ⟨⟨vs, ex_l k1.e hl⟩, fun Dl hD => lc_list (K := K) (xs := vs) (fun i => Cq F K B1 H1 Dl (((ds.take i).filter p).map g)) (cq_start k1 hD) (fun i H' _ c => ?_) (fun i x H' hx c => turn Dl hD i x H' hx c) (fun H' c => fin Dl hD H' c)⟩
    obtain ⟨B', acc, s, k, _⟩ := c
    exact ex_l k.e (ex_l s.bb hl)
  · refine .inr ⟨⟨vs, ex_t k1.e hl⟩, fun Dl hD => lc_tup (K := K) (xs := vs) (fun i => Cq F K B1 H1 Dl (((ds.take i).filter p).map g)) (cq_start k1 hD) (fun i H' _ c => ?_) (fun i x H' hx c => turn Dl hD i x H' hx c) (fun H' c => fin Dl hD H' c)⟩
    obtain ⟨B', acc, s, k, _⟩ := c
    exact ex_t k.e (ex_t s.bb hl)
/-- [te for i in range(n) if tt] -/
theorem ed_lcR {ta : TA} {n : Int} (p : Nat → Bool) (g : Nat → PyData) (h : EDs F K ta σ B [.int n]) (hn : -4611686018427387904 ≤ n ∧ n ≤ 16777216) (hw : ∀ x, wipe ((wipe σ vsN).set j (some x)) vsN = wipe σ vsN)
    (ht : ∀ (i : Nat) B1, (i : Int) < n → Ex B B1 → ETt F tt ((wipe σ vsN).set j (some (.int (i : Int)))) B1 (p i))
    (he : ∀ (i : Nat) B1, (i : Int) < n → p i = true → Ex B B1 → ED F K te ((wipe σ vsN).set j (some (.int (i : Int)))) B1 (g i)) :
    ED F K (tLc (iRng1 ta) (gName j) tt te vsN) σ B (.list (((List.range n.toNat).filter p).map g)) := fun B0 e0 H0 k0 Q q => by
  refine h B0 e0 H0 k0 _ fun vs B1 H1 s1 k1 pv => ?_
  cases pv with
  | cons pv t =>
    cases t
    obtain rfl := dd_int pv
    have fl : ∀ i, ((List.range i).filter p).length ≤ i := fun i => Nat.le_trans (List.length_filter_le _ _) (by rw [List.length_range]; exact Nat.le_refl _)
    refine ⟨n, rfl, hn.1, by omega, fun Dl hD => lc_range (lo := 0) (n := n.toNat) (fun i => Cq F K B1 H1 Dl (((List.range i).filter p).map g)) (cq_start k1 hD) (fun i H' hi c => ?_) (fun H' c => ?_)⟩
    · have e1 : (0 : Int) + (i : Int) = (i : Int) := Int.zero_add _
      show wipe ((wipe σ vsN).set j (some (.int ((0 : Int) + (i : Int))))) vsN = wipe σ vsN ∧ tt ((wipe σ vsN).set j (some (.int ((0 : Int) + (i : Int))))) H' _
      rw [e1]
      refine ⟨hw _, ?_⟩
      rw [List.range_succ, filter_snoc]
      exact cq_turn k1 hD (by rw [List.length_map]; exact Nat.lt_of_le_of_lt (fl i) (by omega)) c (fun B' e => ht i B' (by omega) ((e0.trans s1.bb).trans e)) (fun hp B' e => he i B' (by omega) hp ((e0.trans s1.bb).trans e))
    · obtain ⟨B2, s2, k2, g2⟩ := cq_done k1 hD (by rw [List.length_map]; exact Nat.le_trans (fl _) (by omega)) c
      exact q _ B2 H' (s1.trans s2) k2 g2
/-- no test -/
theorem et_yes {σ : L2.St} : ETt F tYes σ B true := fun B1 e0 H k Q q => q B1 H (Step.refl k.e) k
end
end Dx

/-! Defs that are called, boxes of draws, exceptions as values. -/
namespace Dx
open PySem PySem.Spec PyProof.Rows L2 Evl Ex

/-! ### built-in names -/
theorem bt_len : bootBuiltins "len" = some (.builtin "len") := by decide +kernel
theorem bt_abs : bootBuiltins "abs" = some (.builtin "abs") := by decide +kernel
theorem bt_isinstance : bootBuiltins "isinstance" = some (.builtin "isinstance") := by decide +kernel
theorem bt_all : bootBuiltins "all" = some (.builtin "all") := by decide +kernel
theorem bt_any : bootBuiltins "any" = some (.builtin "any") := by decide +kernel
theorem bt_int : bootBuiltins "int" = some (.type "int") := by decide +kernel
theorem bt_str : bootBuiltins "str" = some (.type "str") := by decide +kernel
theorem bt_bool : bootBuiltins "bool" = some (.type "bool") := by decide +kernel
theorem bt_tuple : bootBuiltins "tuple" = some (.type "tuple") := by decide +kernel
theorem bt_list : bootBuiltins "list" = some (.type "list") := by decide +kernel
theorem bt_ValueError : bootBuiltins "ValueError" = some (.type "ValueError") := by decide +kernel

/-! ### a def that others call -/
structure Callee (P : Program) (w : World) (K : PySem.W.Frag) (mg : Str → Option Value) (base : Heap) (x : Str) (k : Nat) (ps : List Str) (sp : Sp) : Prop where
  ex : ∃ f fd, FnOk P w K mg base CX0 k f fd ps sp ∧ mg x = some (.ref f) ∧ PySem.W.keepIn K (.ref f) = true ∧ Binds K fd ps []
section
variable {X : Cx} {x : Str} {k : Nat} {ps : List Str} {sp : Sp} {E : XK} {e : Expr} {es : List Expr} {t : TA} {p pos : Pos}
theorem pe_callC (C : Callee X.prog X.w X.K X.mg X.base x k ps sp) (hr : Room k X.A) (hg : Gl X x) (hx : Passes CX0 X E) (ha : PA X (e :: es) t) (hdb : (x == ("__debug__" : Str)) = false := by decide)
    (he : starEach (e :: es) X.env = (false, eval e X.env) :: starEach es X.env := by rfl) (hpl : (backTo pos (starEach es X.env)).any (·.1) = false := by rfl) :
    PE X (.Call (.Name x p) (e :: es) [] pos) (tCall sp [] E t) := by
  obtain ⟨f, fd, F, hm, hk, hb⟩ := C.ex
  exact pe_call F hr hg hm hk hb .nil hx ha hdb he hpl
theorem pe_callC0 (C : Callee X.prog X.w X.K X.mg X.base x k ps sp) (hr : Room k X.A) (hg : Gl X x) (hx : Passes CX0 X E) (hdb : (x == ("__debug__" : Str)) = false := by decide) :
    PE X (.Call (.Name x p) [] [] pos) (tCall sp [] E tNil) := by
  obtain ⟨f, fd, F, hm, hk, hb⟩ := C.ex
  exact pe_call0 F hr hg hm hk hb .nil hx hdb
theorem pe_gint {i : Int} (hg : Gl X x) (hm : ∃ t, X.mg x = some (.int i t)) (hd : (x == ("__debug__" : Str)) = false := by decide) : PE X (.Name x pos) (tC (.int i)) := by
  obtain ⟨t, hm⟩ := hm
  exact pe_glob hg hm ⟨t, rfl⟩ hd
end

/-! ### a box of draws -/
def bxJ (p : Addr) (H : Hp) : Prop := ∃ g s : Int, H p = some (.lst [.int g, .int s])
theorem bxJ_live {p a : Addr} {H : Hp} (h : bxJ p H) (m : a = p) : H a ≠ none := by
  obtain ⟨g, s, h⟩ := h
  subst m
  rw [h]
  exact fun z => nomatch z
theorem bxJ_fr {p a : Addr} {H : Hp} {o : HO} (h : bxJ p H) (n : ¬ a = p) : bxJ p (upd H a o) := by
  obtain ⟨g, s, h⟩ := h
  exact ⟨g, s, by rw [upd_ne (fun z => n z.symm)]; exact h⟩
def Fm.box (p : Addr) : Fm := ⟨fun a => a = p, bxJ p, fun _ _ e ⟨g, s, h⟩ => ⟨g, s, e _ _ h⟩, fun _ _ h m => bxJ_live h m, fun _ _ _ h n => bxJ_fr h n⟩
/-- f(box, ..): draws, changes the box alone -/
def spX (K : PySem.W.Frag) (pre : List PyData → Prop) (P : List PyData → PV) : Sp := fun vs H Q _ => ∃ (p : Addr) (us : List V) (B : Hp) (ds : List PyData), vs = .ref p :: us ∧ Ok (Fm.box p) B H ∧ DdAll K B us ds ∧ pre ds ∧
  ∀ v B' H', Step (fun a => a = p) B H B' H' → Ok (Fm.box p) B' H' → P ds v B' → Q v H'
section
variable {K : PySem.W.Frag} {σ : L2.St} {B : Hp} {p : Addr} {i : Nat} {tas : TA} {ds : List PyData} {pre : List PyData → Prop} {P : List PyData → PV} {E : XK} {Z : PV}
theorem ev_X (hi : σ[i]? = some (some (.ref p))) (ha : EDs (Fm.box p) K tas σ B ds) (h : pre ds) (hz : ∀ v B1, Ex B B1 → P ds v B1 → Z v B1) : EV (Fm.box p) (tCall (spX K pre P) [] E (tCons (tVar i) tas)) σ B Z := fun B1 e0 H j Q q =>
  ⟨.ref p, hi, ha B1 e0 H j _ fun us B2 H2 s2 j2 g => by
    show spX K pre P ((V.ref p :: us) ++ []) H2 Q E
    rw [List.append_nil]
    exact ⟨p, us, B2, ds, rfl, j2, g, h, fun v B3 H3 s3 j3 pz => q v B3 H3 (s2.trans s3) j3 (hz v B3 ((e0.trans s2.bb).trans s3.bb) pz)⟩⟩
end

/-! ### exceptions as values -/
def spInit (C : Addr) (f : Str) : Sp := fun vs H Q _ => ∃ (a : Addr) (v : V), vs = [.ref a, v] ∧ H a = some (exo a C none) ∧ ∀ dx, H dx = none → dx ≠ a → Q .non (upd (upd H dx (exd dx [(f, v)])) a (exo a C (some dx)))
structure ExcAt (P : Program) (w : World) (K : PySem.W.Frag) (mg : Str → Option Value) (base : Heap) (x f : Str) (C : Addr) : Prop where
  oc : OexC K C
  xf : XfC K C
  isc : IsC K C
  no : PySem.W.findIn K (.ref C) f = some none
  g : mg x = some (.ref C)
  ini : ∃ fI fd, PySem.W.findIn K (.ref C) "__init__" = some (some (.ref fI)) ∧ PySem.W.typeIn K (.ref fI) = some (.type "function") ∧ FnOk P w K mg base CX0 1 fI fd ["self", f] (spInit C f) ∧ Binds K fd ["self", f] []
section
variable {X : Cx} {x f : Str} {C : Addr} {e : Expr} {ta : TA} {p pos : Pos}
theorem pe_mkE (c : ExcAt X.prog X.w X.K X.mg X.base x f C) (hr : Room 2 X.A) (hg : Gl X x) (ha : PA X [e] ta) (hdb : (x == ("__debug__" : Str)) = false := by decide)
    (he : starEach [e] X.env = (false, eval e X.env) :: starEach [] X.env := by rfl) (hpl : (backTo pos (starEach [] X.env)).any (·.1) = false := by rfl) :
    PE X (.Call (.Name x p) [e] [] pos) (tMkV C (spInit C f) [] ta) := by
  obtain ⟨fI, fd, h1, h2, h3, h4⟩ := c.ini
  exact pe_mkv c.oc h1 h2 h3 hr h4 .nil pass0 hg c.g ha hdb he hpl
end
/-- an error of the class at C that keeps data d under the name f -/
def EvX (K : PySem.W.Frag) (C : Addr) (f : Str) (d : PyData) : PV := fun v B => ∃ (a dx : Addr) (u : V), v = .ref a ∧ B a = some (exo a C (some dx)) ∧ B dx = some (exd dx [(f, u)]) ∧ Dd K B u d
section
variable {F : Fm} {K : PySem.W.Frag} {σ : L2.St} {B : Hp} {te : TE} {d : PyData} {C : Addr} {f : Str}
theorem upc_evx : Upc (EvX K C f d) := fun v B B' e h => by
  obtain ⟨a, dx, u, rfl, h1, h2, h3⟩ := h
  exact ⟨a, dx, u, rfl, e _ _ h1, e _ _ h2, Dd.up h3 e⟩
theorem upd3 {H : Hp} {a b : Addr} {o u v : HO} (h : b ≠ a) : upd (upd (upd H a o) b u) a v = upd (upd H b u) a v := by
  funext c
  by_cases h1 : c = a
  · subst h1
    rw [upd_same, upd_same]
  · rw [upd_ne h1, upd_ne h1]
    by_cases h2 : c = b
    · subst h2
      rw [upd_same, upd_same]
    · rw [upd_ne h2, upd_ne h2, upd_ne h1]
theorem ev_mk (h : ED F K te σ B d) : EV F (tMkV C (spInit C f) [] (tCons te tNil)) σ B (EvX K C f d) := fun B1 e0 H j Q q =>
  h B1 e0 H j _ fun v B2 H2 s2 j2 g => ⟨(by show 1 ≤ 1000; decide), fun a ha => ⟨a, v, rfl, upd_same, fun dx hdx hne => ⟨rfl, by
    have hd : H2 dx = none := by
      rw [upd_ne hne] at hdx
      exact hdx
    have ha2 : upd H2 dx (exd dx [(f, v)]) a = none := by
      rw [upd_ne (Ne.symm hne)]
      exact ha
    have s3 : Step F.M B2 H2 (upd B2 dx (exd dx [(f, v)])) (upd H2 dx (exd dx [(f, v)])) := Step.alloc j2.e hd
    have j3 := j2.alloc (o := exd dx [(f, v)]) hd
    have s4 : Step F.M _ _ (upd (upd B2 dx (exd dx [(f, v)])) a (exo a C (some dx))) (upd (upd H2 dx (exd dx [(f, v)])) a (exo a C (some dx))) := Step.alloc j3.e ha2
    have j4 := j3.alloc (o := exo a C (some dx)) ha2
    rw [upd3 hne]
    refine q (.ref a) _ _ ((s2.trans s3).trans s4) j4 ⟨a, dx, v, rfl, upd_same, ?_, Dd.up g (s3.bb.trans s4.bb)⟩
    rw [upd_ne hne]
    exact upd_same⟩⟩⟩
theorem ev_oxf (hx : XfC K C) (no : PySem.W.findIn K (.ref C) f = some none) (h : EV F te σ B (EvX K C f d)) : ED F K (tOxf K f te) σ B d := fun B1 e0 H j Q q =>
  h B1 e0 H j _ fun v B2 H2 s2 j2 ⟨a, dx, u, ev, h1, h2, h3⟩ => ⟨a, C, dx, _, u, ev, j2.e _ _ h1, j2.e _ _ h2, hx, no, (by simp [List.lookup]), q u B2 H2 s2 j2 h3⟩
theorem ev_isx {c : V} {cv : Value} {b : Bool} (hx : XfC K C) (hi : IsC K C) (hc : ClsV c cv) (hk : PySem.W.kitOne K (.ref C) cv = some b) (h : EV F te σ B (EvX K C f d)) : ED F K (tCB (rIsX K) (tCons te (tCons (tC c) tNil))) σ B (.bool b) := fun B1 e0 H j Q q =>
  h B1 e0 H j _ fun v B2 H2 s2 j2 ⟨a, dx, u, ev, h1, h2, h3⟩ => ⟨a, C, dx, _, c, cv, b, (by rw [ev]), j2.e _ _ h1, j2.e _ _ h2, hx, hi, hc, hk, q _ B2 H2 s2 j2 (.bl b)⟩
end
end Dx

/-! Instances whose __init__ may raise; errors raised; lists of errors; draws. -/
namespace Dx
open PySem PySem.Spec PyProof.Rows L2 Evl Ex

/-! ### C(..) where what is raised is wished for at the caller's slots -/
section
variable {X : Cx} {CX : CXT} {k : Nat} {C f : Addr} {fd : FuncData} {ps : List Str} {sp : Sp} {E : L2.St → XK} {x : Str} {p pos : Pos} {e : Expr} {es : List Expr} {t : TA}
def tMakeS (C : Addr) (sp : Sp) (E : L2.St → XK) (t : TA) : TE := fun σ H Q => t σ H fun vs H1 => ∀ x dx, H1 x = none → H1 dx = none → dx ≠ x → sp (.ref x :: vs) (upd (upd H1 dx (.own x)) x (.ins C dx [])) (fun v H2 => v = .non ∧ Q (.ref x) H2) (E σ)
theorem run_makeS {pins : List (Addr × Obj)} {σ : L2.St} {H : Hp} {s : Shared} {Q : VK} {us : List Value} {vs : List V} (M : Mk X.K C f) (F : FnOk X.prog X.w X.K X.mg X.base CX k f fd ps sp) (hr : Room (k + 1) X.A) (hb : Binds X.K fd ps [])
    (hx : PassesAt CX X σ (E σ)) (I : Inv X pins σ H s) (r : Vals vs us)
    (h : ∀ x dx, H x = none → H dx = none → dx ≠ x → sp (.ref x :: vs) (upd (upd H dx (.own x)) x (.ins C dx [])) (fun v H2 => v = .non ∧ Q (.ref x) H2) (E σ)) :
    wpAny (model X.prog X.w) X.A (call (.ref C) us) (EP X pins σ Q) X.xe s := by
  have hq := h (s.heap.objs.size + 1) s.heap.objs.size (I.hok.fresh (Nat.le_succ _)) (I.hok.fresh (Nat.le_refl _)) (Nat.ne_of_lt (Nat.lt_succ_self _))
  have I2 := Inv.made (C := C) I
  have r2 : Vals (V.ref (s.heap.objs.size + 1) :: vs) (Value.ref (s.heap.objs.size + 1) :: us) := .cons rfl r
  have hl : (Value.ref (s.heap.objs.size + 1) :: us ++ []).length = ps.length := by
    have e := r2.length
    rw [F.len _ _ _ _ hq] at e
    rw [List.append_nil]
    exact e.symm
  have b := hb _ (Value.ref (s.heap.objs.size + 1) :: us) I2.kIn hl
  rw [List.append_nil] at b
  refine wpAny_call (make_map (f := f) I.kIn M.makes M.init (beq_iff_eq.mp M.fn) (codeAny_mono (F.run _ X.stack _ _ ⟨Value.ref (s.heap.objs.size + 1) :: us, []⟩ (Value.ref (s.heap.objs.size + 1) :: us) _ _ (E σ) (hr.make C us [])
    (I2.env0.make C us []) b r2 hq) fun r s' hq' => ?_))
  cases r with
  | error e => exact hx pins _ _ e s' I2 hq'
  | ok fl =>
    cases fl with
    | ret u =>
      obtain ⟨v, H', I3, rv, ev, q3⟩ := I2.after hq'
      subst ev
      exact ⟨rv, ⟨V.ref (s.heap.objs.size + 1), H', I3, rfl, q3⟩⟩
    | next => exact False.elim hq'
    | brk => exact False.elim hq'
    | cont => exact False.elim hq'
theorem pe_makeS (M : Mk X.K C f) (F : FnOk X.prog X.w X.K X.mg X.base CX k f fd ps sp) (hr : Room (k + 1) X.A) (hg : Gl X x) (hm : X.mg x = some (.ref C)) (hb : Binds X.K fd ps []) (hx : ∀ σ, PassesAt CX X σ (E σ))
    (ha : PA X (e :: es) t) (hdb : (x == ("__debug__" : Str)) = false := by decide) (he : starEach (e :: es) X.env = (false, eval e X.env) :: starEach es X.env := by rfl) (hpl : (backTo pos (starEach es X.env)).any (·.1) = false := by rfl) :
    PE X (.Call (.Name x p) (e :: es) [] pos) (tMakeS C sp E t) := by
  refine ⟨fun pins s σ H Q I h => ?_⟩
  refine wpAny_Call_Name_kw (ld_glob I hg hm ?_ hdb)
  refine PySem.W.callWith_K (h₀ := X.base) I.ok.mod.kin M.kp (thn (ha.run pos pins s σ H _ I h) fun us s1 ⟨vs, H1, I1, r, q⟩ => ⟨I1.kIn, ?_⟩) he hpl
  exact run_makeS M F hr hb (hx σ) I1 r q
end

/-! ### raise X(e) -/
section
variable {X : Cx} {x f : Str} {C : Addr} {e : Expr} {ta : TA} {p pos : Pos}
theorem pmk_E (c : ExcAt X.prog X.w X.K X.mg X.base x f C) (hr : Room 2 X.A) (hg : Gl X x) (ha : PA X [e] ta) (hdb : (x == ("__debug__" : Str)) = false := by decide)
    (he : starEach [e] X.env = (false, eval e X.env) :: starEach [] X.env := by rfl) (hpl : (backTo pos (starEach [] X.env)).any (·.1) = false := by rfl) :
    PMk X (.Call (.Name x p) [e] [] pos) (tMkO C (spInit C f) [] ta) := by
  obtain ⟨fI, fd, h1, h2, h3, h4⟩ := c.ini
  exact pmk_oex c.oc h1 h2 h3 hr h4 .nil pass0 hg c.g ha hdb he hpl
end
/-- the reading of what is raised: behind a heap H1 that holds all of B; the error's own dict dd keeps v -/
theorem mk_raise {F : Fm} {P : PV} {σ : L2.St} {B H : Hp} {te : TE} {C : Addr} {f : Str} {E : XK} (k : Ok F B H) (h : EV F te σ B P)
    (q : ∀ v B1 H1 dd H', Step F.M B H B1 H1 → Ok F B1 H1 → P v B1 → H1 dd = none → Ex H1 H' → H' dd = some (.xd [(f, v)]) → E (.ref C) (some dd) H') : tMkO C (spInit C f) [] (tCons te tNil) σ H E :=
  h B (Ex.refl B) H k _ fun v B1 H1 s1 k1 p => ⟨(by show 1 ≤ 1000; decide), fun a ha => ⟨a, v, rfl, upd_same, fun dx hdx hne => ⟨rfl, dx, _, upd_same, (by rw [upd_ne hne]; exact upd_same), (by
    rw [upd_ne hne] at hdx
    exact hdx), by
    have hd : H1 dx = none := by
      rw [upd_ne hne] at hdx
      exact hdx
    refine q v B1 H1 dx _ s1 k1 p hd (fun b o hb => ?_) upd_same
    have b1 : b ≠ dx := ne_of_none hb hd
    have b2 : b ≠ a := ne_of_none hb ha
    rw [upd_ne b1, del_ne b2, upd_ne b2, upd_ne b1, upd_ne b2]
    exact hb⟩⟩⟩

/-! ### lists of errors -/
inductive AX (K : PySem.W.Frag) (d : PyData) (B : Hp) : List (Addr × Str) → List V → Prop
  | nil : AX K d B [] []
  | cons {c : Addr} {f : Str} {v : V} {cs : List (Addr × Str)} {vs : List V} : EvX K c f d v B → AX K d B cs vs → AX K d B ((c, f) :: cs) (v :: vs)
section
variable {F : Fm} {K : PySem.W.Frag} {d : PyData} {B B' : Hp} {σ : L2.St} {te : TE} {tas : TA} {cs cs' : List (Addr × Str)} {vs us : List V} {c : Addr} {f : Str}
theorem AX.up (e : Ex B B') : ∀ {cs : List (Addr × Str)} {vs : List V}, AX K d B cs vs → AX K d B' cs vs
  | _, _, .nil => .nil
  | _, _, .cons h t => .cons (upc_evx _ _ _ e h) (AX.up e t)
theorem AX.len : ∀ {cs : List (Addr × Str)} {vs : List V}, AX K d B cs vs → vs.length = cs.length
  | _, _, .nil => rfl
  | _, _, .cons _ t => by rw [List.length_cons, List.length_cons, AX.len t]
theorem AX.app : ∀ {cs cs' : List (Addr × Str)} {vs us : List V}, AX K d B cs vs → AX K d B cs' us → AX K d B (cs ++ cs') (vs ++ us)
  | _, _, _, _, .nil, h => h
  | _, _, _, _, .cons a t, h => .cons a (AX.app t h)
theorem AX.get : ∀ {cs : List (Addr × Str)} {vs : List V} {i : Nat} {v : V}, AX K d B cs vs → vs[i]? = some v → ∃ c f, cs[i]? = some (c, f) ∧ EvX K c f d v B
  | _, _, i, _, .nil, e => by simp at e
  | _, _, 0, _, .cons h _, e => by
    simp at e
    subst e
    exact ⟨_, _, rfl, h⟩
  | _, _, i + 1, v, .cons _ t, e => by
    obtain ⟨c, f, h1, h2⟩ := AX.get (i := i) (v := v) t (by simpa using e)
    exact ⟨c, f, by simpa using h1, h2⟩
theorem eax_nil : EVs F tNil σ B (fun vs B => AX K d B [] vs) := fun B1 e0 H j Q q => q [] B1 H (Step.refl j.e) j .nil
theorem eax_cons (h : EV F te σ B (EvX K c f d)) (hs : EVs F tas σ B (fun vs B => AX K d B cs vs)) : EVs F (tCons te tas) σ B (fun vs B => AX K d B ((c, f) :: cs) vs) := fun B1 e0 H j Q q =>
  h B1 e0 H j _ fun v B2 H2 s2 j2 p => hs B2 (e0.trans s2.bb) H2 j2 _ fun us B3 H3 s3 j3 ps => q (v :: us) B3 H3 (s2.trans s3) j3 (.cons (upc_evx _ _ _ s3.bb p) ps)
/-- a list of such errors -/
def LsX (K : PySem.W.Frag) (d : PyData) (cs : List (Addr × Str)) : PV := fun v B => ∃ a vs, v = .ref a ∧ B a = some (.lst vs) ∧ AX K d B cs vs
theorem upc_lsx : Upc (LsX K d cs) := fun v B B' e ⟨a, vs, h1, h2, h3⟩ => ⟨a, vs, h1, e _ _ h2, h3.up e⟩
theorem ev_lsx (h : EVs F tas σ B (fun vs B => AX K d B cs vs)) (hl : cs.length ≤ 16777216 := by exact Nat.le_of_ble_eq_true rfl) : EV F (tLst tas) σ B (LsX K d cs) :=
  h.newL (fun vs B1 _ p => by rw [AX.len p, sizeLine_eq]; exact hl) fun vs p B1 _ g hp => ⟨p, vs, rfl, upd_same, AX.up (Ex.new hp) g⟩
theorem rv_lsx (hl : cs.length + cs'.length ≤ 16777216) : RV2 F (rAddA K) B (LsX K d cs) (LsX K d cs') (LsX K d (cs ++ cs')) := fun B1 e0 H u v jj ⟨a, vs, hu, h1, g1⟩ ⟨b, us, hv, h2, g2⟩ Q q =>
  .inr (.inr (.inl ⟨a, b, vs, us, hu, hv, jj.e _ _ h1, jj.e _ _ h2, by rw [g1.len, g2.len, sizeLine_eq]; exact hl, fun p hp => q _ _ _ (Step.alloc jj.e hp) (jj.alloc hp) ⟨p, vs ++ us, rfl, upd_same, AX.up (Ex.new (fresh_back jj.e hp)) (g1.app g2)⟩⟩))
theorem rv_ixX {i : Int} (hi : 0 ≤ i ∧ i < (cs.length : Nat)) : RV2 F (rIx K) B (LsX K d cs) (DD K (.int i)) (fun v B => ∃ c f, cs[i.toNat]? = some (c, f) ∧ EvX K c f d v B) := fun B1 e0 H u v jj ⟨a, vs, hu, h1, g1⟩ hv Q q => by
  have hlt : i.toNat < vs.length := by rw [g1.len]; omega
  have hx : vs[i.toNat]? = some vs[i.toNat] := List.getElem?_eq_getElem hlt
  obtain ⟨w, hw⟩ : ∃ w, vs[i.toNat]? = some w := ⟨_, hx⟩
  obtain ⟨c, f, h2, h3⟩ := g1.get hw
  exact .inl ⟨a, vs, i, w, hu, dd_int hv, sq_of (jj.e _ _ h1), at_of (by omega) hw, q _ B1 H (Step.refl jj.e) jj ⟨c, f, h2, h3⟩⟩
theorem rc_lenX : RVc F (fun xs H Q => ∃ x n, xs = [x] ∧ LenV K x H n ∧ Q (.int (n : Nat)) H) B (fun vs B => ∃ v, vs = [v] ∧ LsX K d cs v B) (DD K (.int (cs.length : Nat))) := fun B1 e0 H us jj ⟨v, e, a, vs, hv, h1, g1⟩ Q q =>
  ⟨v, cs.length, e, by
    subst hv
    exact .inl ⟨vs, sq_of (jj.e _ _ h1), g1.len.symm⟩, q _ B1 H (Step.refl jj.e) jj (.int _)⟩
theorem evs_one {P : PV} (h : EV F te σ B P) : EVs F (tCons te tNil) σ B (fun vs B => ∃ v, vs = [v] ∧ P v B) := fun B1 e0 H j Q q =>
  h B1 e0 H j _ fun v B2 H2 s2 j2 p => q [v] B2 H2 s2 j2 ⟨v, rfl, p⟩
theorem sqv_lsx {v : V} (h : LsX K d cs v B) : SqV K (fun vs B => AX K d B cs vs) v B := by
  obtain ⟨a, vs, rfl, h1, g⟩ := h
  exact ⟨a, vs, rfl, .inl (sq_of h1), g⟩
end

/-! ### draws -/
def preT (ds : List PyData) : Prop := ∃ m : Int, ds = [.int m] ∧ 0 < m ∧ m < 1073741824
def posT (ds : List PyData) : PV := fun v _ => ∃ i m : Int, ds = [.int m] ∧ v = .int i ∧ 0 ≤ i ∧ i < m
abbrev spTake (K : PySem.W.Frag) : Sp := spX K preT posT
def itemsOf : PyData → List PyData
  | .list xs => xs
  | .tuple xs => xs
  | _ => []
def preP (ds : List PyData) : Prop := ∃ d xs, ds = [d] ∧ (d = .list xs ∨ d = .tuple xs) ∧ xs ≠ [] ∧ xs.length < 1073741824
def posP (K : PySem.W.Frag) (ds : List PyData) : PV := fun v B => ∃ d e, ds = [d] ∧ e ∈ itemsOf d ∧ Dd K B v e
abbrev spPick (K : PySem.W.Frag) : Sp := spX K preP (posP K)
section
variable {F : Fm} {K : PySem.W.Frag} {σ : L2.St} {B : Hp} {p : Addr} {i : Nat} {ta : TE} {E : XK}
theorem ev_take {m : Int} (hi : σ[i]? = some (some (.ref p))) (ha : ED (Fm.box p) K ta σ B (.int m)) (h0 : 0 < m) (h1 : m < 1073741824) : EV (Fm.box p) (tCall (spTake K) [] E (tCons (tVar i) (tCons ta tNil))) σ B (fun v _ => ∃ n : Int, v = .int n ∧ 0 ≤ n ∧ n < m) :=
  ev_X hi (eds_cons ha eds_nil) ⟨m, rfl, h0, h1⟩ fun v B1 _ ⟨n, m', e, ev, h2, h3⟩ => by
    cases e
    exact ⟨n, ev, h2, h3⟩
theorem ev_pick {d : PyData} {xs : List PyData} (hi : σ[i]? = some (some (.ref p))) (ha : ED (Fm.box p) K ta σ B d) (hd : d = .list xs ∨ d = .tuple xs) (h0 : xs ≠ []) (h1 : xs.length < 1073741824) :
    EV (Fm.box p) (tCall (spPick K) [] E (tCons (tVar i) (tCons ta tNil))) σ B (fun v B => ∃ e, e ∈ xs ∧ Dd K B v e) :=
  ev_X hi (eds_cons ha eds_nil) ⟨d, xs, rfl, hd, h0, h1⟩ fun v B1 _ ⟨d', e, ed, he, hv⟩ => by
    cases ed
    refine ⟨e, ?_, hv⟩
    rcases hd with rfl | rfl <;> exact he
/-- xs[i], i some place -/
theorem rv_pick {d : PyData} {xs : List PyData} (hd : d = .list xs ∨ d = .tuple xs) : RV2 F (rIx K) B (DD K d) (fun v _ => ∃ n : Int, v = .int n ∧ 0 ≤ n ∧ n < (xs.length : Nat)) (fun v B => ∃ e, e ∈ xs ∧ Dd K B v e) := fun B1 e0 H u v jj hu ⟨n, hv, h0, h1⟩ Q q => by
  have hlt : n.toNat < xs.length := by omega
  obtain ⟨w, hw⟩ : ∃ w, xs[n.toNat]? = some w := ⟨_, List.getElem?_eq_getElem hlt⟩
  have hm : w ∈ xs := List.mem_of_getElem? hw
  have ha : atI xs n = some w := by
    have e : n = ((n.toNat : Nat) : Int) := by omega
    have h := atI_nat hw
    rw [← e] at h
    exact h
  subst hv
  rcases hd with rfl | rfl
  · exact rd_ixL (F := F) ha B1 e0 H u (.int n) jj hu (.int n) Q fun w B2 H2 s k g => q w B2 H2 s k ⟨_, hm, g⟩
  · exact rd_ixT (F := F) ha B1 e0 H u (.int n) jj hu (.int n) Q fun w B2 H2 s k g => q w B2 H2 s k ⟨_, hm, g⟩
end
/-- _law_box(script, k): a new box -/
def spBox (K : PySem.W.Frag) : Sp := fun vs H Q _ => ∃ (a : Addr) (k : Int) (ns : List Int) (B : Hp), vs = [.ref a, .int k] ∧ Ex B H ∧ SqL K B a (ns.map V.int) ∧ ns.length ≤ 63 ∧ 0 ≤ k ∧ k ≤ 1000 ∧
  ∀ p B' H', Step (fun _ => False) B H B' H' → Ok (Fm.box p) B' H' → Q (.ref p) H'
section
variable {F : Fm} {K : PySem.W.Frag} {σ : L2.St} {B0 H0 B H : Hp} {D : Ends} {tz : TS} {i j l : Nat} {E : XK} {ta : TA} {d : PyData} {te : TE}
theorem qv_box {a : Addr} {ns : List Int} {k : Int} (e : Ex B H) (hi : σ[i]? = some (some (.ref a))) (hS : SqL K B a (ns.map V.int)) (hl : ns.length ≤ 63) (h0 : 0 ≤ k) (h1 : k ≤ 1000)
    (q : ∀ p B1 H1, Step (fun _ => False) B H B1 H1 → Ok (Fm.box p) B1 H1 → tz D (σ.set j (some (.ref p))) H1) : tSeq (tAsg (tCall (spBox K) [] E (tCons (tVar i) (tCons (tC (.int k)) tNil))) (gName j)) tz D σ H :=
  ⟨.ref a, hi, a, k, ns, B, rfl, e, hS, hl, h0, h1, q⟩
theorem qv_par3X {x y z : Addr × Str} (a : At F B0 H0 B H) (h : EVs F ta σ B (fun vs B => AX K d B [x, y, z] vs))
    (k : ∀ u v w B1 H1, Ex B B1 → At F B0 H0 B1 H1 → EvX K x.1 x.2 d u B1 → EvX K y.1 y.2 d v B1 → EvX K z.1 z.2 d w B1 → tz D (((σ.set i (some u)).set j (some v)).set l (some w)) H1) : tSeq (tPar3 i j l ta) tz D σ H :=
  h B (Ex.refl B) H a.j _ fun vs B1 H1 s1 j1 g => by
    cases g with
    | cons g1 t =>
      cases t with
      | cons g2 t =>
        cases t with
        | cons g3 t =>
          cases t
          exact ⟨_, _, _, rfl, k _ _ _ B1 H1 s1.bb (a.next s1 j1) g1 g2 g3⟩
def Sh (K : PySem.W.Frag) : PV := fun v B => ∃ d, Dd K B v d ∧ SeqAt.shaped d = true
theorem sh_of (h : ED F K te σ B d) (hs : SeqAt.shaped d = true) : EV F te σ B (Sh K) := h.imp fun v B1 _ hv => ⟨d, hv, hs⟩
end
end Dx

/-! The rules with the written part K named (also within comprehensions). -/
namespace Dx
open PySem PySem.Spec PyProof.Rows L2 Evl Ex
section
variable {X : Cx} (K : PySem.W.Frag) {e : Expr} {te : TE} {f : Str} {pos : Pos} {tg l : Expr} {tl : TE}
def rLnK (K : PySem.W.Frag) : List V → Hp → VK → Prop := fun xs H Q => ∃ x n, xs = [x] ∧ LenV K x H n ∧ Q (.int (n : Nat)) H
theorem call_lenK (hK : X.K = K := by rfl) : CallR X (.builtin "len") (rLnK K) := by subst hK; exact call_len
theorem ix_seqK (hK : X.K = K := by rfl) : IxR X (rIx K) := by subst hK; exact ix_seq
theorem op_addK (hK : X.K = K := by rfl) : OpR X (binaryOp .Add) (rAddA K) := by subst hK; exact op_addA
theorem op_eqDK (hu : X.A.units + 64 < cLine) (hK : X.K = K := by rfl) : OpR X (compareOp .Eq) (rEqD K) := by subst hK; exact op_eqD hu
theorem op_neDK (hu : X.A.units + 64 < cLine) (hK : X.K = K := by rfl) : OpR X (compareOp .NotEq) (rNeD K) := by subst hK; exact op_neD hu
theorem op_inK (hK : X.K = K := by rfl) : OpR X (compareOp .In) (rIn K false) := by subst hK; exact op_in_seq
theorem op_ninK (hK : X.K = K := by rfl) : OpR X (compareOp .NotIn) (rIn K true) := by subst hK; exact op_notIn_seq
theorem call_isiK1 (hK : X.K = K := by rfl) : CallR X (.builtin "isinstance") (rIsi K) := by subst hK; exact call_isi
theorem call_isXK (hK : X.K = K := by rfl) : CallR X (.builtin "isinstance") (rIsX K) := by subst hK; exact call_isX
theorem pe_oxfK (he : PE X e te) (hK : X.K = K := by rfl) (hb : attributeBase e f X.env (eval e X.env) = eval e X.env := by rfl) : PE X (.Attribute e f pos) (tOxf K f te) := by subst hK; exact pe_oxf he hb
theorem pe_fldK (he : PE X e te) (hK : X.K = K := by rfl) (hb : attributeBase e f X.env (eval e X.env) = eval e X.env := by rfl) : PE X (.Attribute e f pos) (tFld K te f) := by subst hK; exact pe_fld he hb
theorem pi_seqK (hl : PE X l tl) (hK : X.K = K := by rfl) : PI X tg l (iSeq K tl) := by subst hK; exact pi_seq hl
theorem cr_allK (hc : X.calm = true := by rfl) (hK : X.K = K := by rfl) : CallR X (.builtin "all") (rAll K) := by subst hK; exact cr_all hc
theorem cr_anyK (hc : X.calm = true := by rfl) (hK : X.K = K := by rfl) : CallR X (.builtin "any") (rAny K) := by subst hK; exact cr_any hc
theorem pt_tru (he : PE X e te) (ht : ∀ whole, isTrue e X.env whole = (do let v ← whole; standAt e.pos; holding [v] (truthy v)) := by intro _; rfl) (hK : X.K = K := by rfl) :
    PT X e (fun σ H Q => te σ H fun x H' => ∃ k, TruV K x H' k ∧ Q k H') := by subst hK; exact pt_truth he ht
end
end Dx

/-! What the top has written: an error's class, a def, a class. -/
namespace Dx
open PySem PySem.Spec PyProof.Rows L2 Evl Ex
structure XFact (K : PySem.W.Frag) (x f qual : Str) (st : Stmt) (C : Addr) : Prop where
  a : PySem.W.nsIn K mainGlobals x = some (some (.ref C))
  oc : OexC K C
  xf : XfC K C
  isc : IsC K C
  no : PySem.W.findIn K (.ref C) f = some none
  fn : ∃ f1 fd, PySem.W.findIn K (.ref C) "__init__" = some (some (.ref f1)) ∧ PySem.W.typeIn K (.ref f1) = some (.type "function") ∧ Fun K "__init__" qual st f1 fd
theorem xfact_mk {K : PySem.W.Frag} {x f qual : Str} {st : Stmt} {C f1 : Addr} {nm q : Str} {N : Addr} {bs bm : List Value} {sn : List Str} {sub : List Value} {ab : Bool} {col : Option Bool} {dd : Option Addr} {m0 m1 m2 m3 m5 : Option Value}
    {od1 an1 : Option Addr} {sl1 : Array (Option Value)} {oc1 dc1 kV1 pm1 cd1 ct1 : Value}
    (aC : PySem.W.nsIn K mainGlobals x = some (some (.ref C)))
    (xL : K.lookup C = some (excClassObj nm q C N bs bm true sn sub ab col dd m0 m1 m2 m3 m5 "ValueError.__new__")) (hbm : PySem.HandSPX.refsVE bm = true)
    (sa : PySem.W.findIn K (.ref C) "__setattr__" = some (some (.builtin "object.__setattr__"))) (ga : PySem.W.findIn K (.ref C) "__getattribute__" = some (some (.builtin "BaseException.__getattribute__"))) (gg : PySem.W.findIn K (.ref C) "__getattr__" = some none) (nb : PySem.W.findIn K (.ref C) f = some none)
    (a1 : PySem.W.findIn K (.ref C) "__init__" = some (some (.ref f1))) (t1 : PySem.W.typeIn K (.ref f1) = some (.type "function"))
    (l1 : K.lookup f1 = some ⟨oc1, od1, .func (PySem.W.fnOf "__init__" qual (defArgs st) (defBody st) (defScope st) .none kV1 dc1 pm1 an1 cd1 ct1), sl1⟩) (c1 : PySem.W.codeIn K cd1 qual = true) (k1 : PySem.W.keepIn K (.ref f1) = true)
    (kC : PySem.W.keepIn K (.ref C) = true) (eC : PySem.W.subIn K (.ref C) (.type "BaseException") = some true) (tC : PySem.W.typeIn K (.ref C) = some (.type "type")) (hC : PySem.W.hasDictIn K C = true)
    (iC : PySem.W.isClsIn K C = true) (ca : PySem.W.findIn K (.ref C) "__class__" = some (some (.builtin "object.__class__"))) (sg : PySem.W.specialIn K (.builtin "object.__class__") "__get__" = some (some (.builtin "getset_descriptor.__get__")))
    (tk : PySem.W.takesIn K (.builtin "object.__class__") = some true) (mo : PySem.W.mroIn K C (.type "object") = some true) : XFact K x f qual st C where
  a := aC
  oc := ⟨⟨nm, q, N, bs, bm, sn, sub, ab, col, dd, m0, m1, m2, m3, m5, xL, hbm⟩, sa, eC, tC, kC⟩
  xf := ⟨ga, gg, eC, hC⟩
  isc := ⟨iC, ca, sg, tk, mo⟩
  no := nb
  fn := ⟨f1, _, a1, t1, fun_mk l1 c1 k1⟩
theorem XFact.at {P : Program} {w : World} {K : PySem.W.Frag} {mg : Str → Option Value} {base h : Heap} {x f qual : Str} {st : Stmt} {C : Addr} (e : XFact K x f qual st C) (X : K.In h) (G : h.Ns mainGlobals mg)
    (ok : ∀ f1 fd, Fun K "__init__" qual st f1 fd → FnOk P w K mg base CX0 1 f1 fd ["self", f] (spInit C f)) (bnd : ∀ f1 fd, Fun K "__init__" qual st f1 fd → L2.Binds K fd ["self", f] []) : ExcAt P w K mg base x f C := by
  obtain ⟨f1, fd, h1, h2, F⟩ := e.fn
  exact ⟨e.oc, e.xf, e.isc, e.no, PySem.W.mg_of X G e.a, f1, fd, h1, h2, ok f1 fd F, bnd f1 fd F⟩
/-- a def of the module -/
structure DFact (K : PySem.W.Frag) (x : Str) (st : Stmt) (f : Addr) : Prop where
  a : PySem.W.nsIn K mainGlobals x = some (some (.ref f))
  fn : ∃ fd, Fun K x x st f fd
theorem dfact_mk {K : PySem.W.Frag} {x : Str} {st : Stmt} {f : Addr} {od1 an1 : Option Addr} {sl1 : Array (Option Value)} {oc1 dc1 kV1 pm1 cd1 ct1 : Value} (a : PySem.W.nsIn K mainGlobals x = some (some (.ref f)))
    (l1 : K.lookup f = some ⟨oc1, od1, .func (PySem.W.fnOf x x (defArgs st) (defBody st) (defScope st) .none kV1 dc1 pm1 an1 cd1 ct1), sl1⟩) (c1 : PySem.W.codeIn K cd1 x = true) (k1 : PySem.W.keepIn K (.ref f) = true) : DFact K x st f := ⟨a, _, fun_mk l1 c1 k1⟩
theorem DFact.callee {P : Program} {w : World} {K : PySem.W.Frag} {mg : Str → Option Value} {base h : Heap} {x : Str} {st : Stmt} {f : Addr} {k : Nat} {ps : List Str} {sp : Sp} (d : DFact K x st f) (X : K.In h) (G : h.Ns mainGlobals mg)
    (ok : ∀ fd, Fun K x x st f fd → FnOk P w K mg base CX0 k f fd ps sp) (b : ∀ fd, Fun K x x st f fd → L2.Binds K fd ps []) : Callee P w K mg base x k ps sp := by
  obtain ⟨fd, F⟩ := d.fn
  exact ⟨f, fd, ok fd F, PySem.W.mg_of X G d.a, F.kp, b fd F⟩
/-- a class whose instances have a dict, and its __init__ -/
structure CFact (K : PySem.W.Frag) (x qual : Str) (st : Stmt) (C : Addr) : Prop where
  a : PySem.W.nsIn K mainGlobals x = some (some (.ref C))
  made : ∃ f1 fd, Mk K C f1 ∧ Fun K "__init__" qual st f1 fd
theorem cfact_mk {K : PySem.W.Frag} {x qual : Str} {st : Stmt} {C f1 : Addr} {od1 an1 : Option Addr} {sl1 : Array (Option Value)} {oc1 dc1 kV1 pm1 cd1 ct1 : Value} (a : PySem.W.nsIn K mainGlobals x = some (some (.ref C)))
    (mk : PySem.W.makesIn K C = true) (a1 : PySem.W.findIn K (.ref C) "__init__" = some (some (.ref f1))) (i1 : PySem.W.isFn K (.ref f1) = true) (kc : PySem.W.keepIn K (.ref C) = true)
    (l1 : K.lookup f1 = some ⟨oc1, od1, .func (PySem.W.fnOf "__init__" qual (defArgs st) (defBody st) (defScope st) .none kV1 dc1 pm1 an1 cd1 ct1), sl1⟩) (c1 : PySem.W.codeIn K cd1 qual = true) (k1 : PySem.W.keepIn K (.ref f1) = true) : CFact K x qual st C :=
  ⟨a, f1, _, ⟨mk, a1, i1, kc⟩, fun_mk l1 c1 k1⟩
/-- G, the class above the errors -/
structure GFact (K : PySem.W.Frag) (x : Str) (C : Addr) : Prop where
  a : PySem.W.nsIn K mainGlobals x = some (some (.ref C))
  rd : ClX.CRead K C (.type "type")
  gi : PySem.W.findCls K (.ref C) (.type "type") "__init__" = some (.val (.builtin "ValueError.__init__"))
  eC : PySem.W.subIn K (.ref C) (.type "BaseException") = some true
  hC : PySem.W.hasDictIn K C = true
  tC : PySem.W.typeIn K (.ref C) = some (.type "type")
theorem gfact_mk {K : PySem.W.Frag} {x : Str} {C : Addr} (a : PySem.W.nsIn K mainGlobals x = some (some (.ref C))) (r1 : PySem.W.readsIn K C (.type "type") = true) (r2 : PySem.W.specialIn K (.ref C) "__getattribute__" = some (some (.builtin "type.__getattribute__")))
    (gi : PySem.W.findCls K (.ref C) (.type "type") "__init__" = some (.val (.builtin "ValueError.__init__"))) (eC : PySem.W.subIn K (.ref C) (.type "BaseException") = some true) (hC : PySem.W.hasDictIn K C = true) (tC : PySem.W.typeIn K (.ref C) = some (.type "type")) : GFact K x C := ⟨a, ⟨r1, r2⟩, gi, eC, hC, tC⟩
end Dx

namespace K01
open PySem PySem.Spec PyProof.Rows L2 Evl Ex Dx
def topS (i : Nat) : Stmt := PySem.Challenge.pw_treestacks_k01_errors.main.body.getD i (.Pass ⟨0, 0, 0, 0⟩)
/-! ### the errors -/
section
variable {P : Program} {w : World} {K : PySem.W.Frag} {mg : Str → Option Value} {base : Heap} {fI G C : Addr} {fd : FuncData} {mc : Value}
abbrev s_InvalidNumber_init : Stmt := inClass (topS 2) 0
abbrev N_InvalidNumber_init : List Str := ["self", "value"]
theorem sc_InvalidNumber_init : FnScope N_InvalidNumber_init ["self", "value"] (defScope s_InvalidNumber_init) := ⟨rfl, rfl, rfl, by decide +kernel, rfl, by decide +kernel, by decide +kernel⟩
theorem ok_InvalidNumber (F : Fun K "__init__" "InvalidNumber.__init__" s_InvalidNumber_init fI fd) (hg : mg "GraftError" = some (.ref G)) (rd : ClX.CRead K G mc) (gi : PySem.W.findCls K (.ref G) mc "__init__" = some (.val (.builtin "ValueError.__init__"))) (oc : OexC K C) (no : PySem.W.findIn K (.ref C) "value" = some none) :
    FnOk P w K mg base CX0 1 fI fd ["self", "value"] (spInit C "value") := by
  refine F.ok sc_InvalidNumber_init (fun vs H Q E h => ?_) (fun cdv A outer s H vs Q E hr h => ?_)
  · obtain ⟨a, v, rfl, _⟩ := h
    rfl
  · obtain ⟨a, v, rfl, ha, k⟩ := h
    refine ⟨_, (pss_cons (ps_expr (pe_ginit rd gi rfl hg (pa_cons (pv 0) (pa_cons pe_str pa_nil))))
      (pss_one (ps_ost (pv 0) (pv 1)))), ?_⟩
    refine ⟨.ref a, rfl, a, C, _, rfl, (by show 1 ≤ 1000; decide), oc, ha, ?_⟩
    exact ⟨v, rfl, .ref a, rfl, a, C, rfl, oc, no, .inl ⟨ha, fun dx hdx hne => k dx hdx hne⟩⟩
abbrev s_InvalidRules_init : Stmt := inClass (topS 3) 0
abbrev N_InvalidRules_init : List Str := ["self", "value"]
theorem sc_InvalidRules_init : FnScope N_InvalidRules_init ["self", "value"] (defScope s_InvalidRules_init) := ⟨rfl, rfl, rfl, by decide +kernel, rfl, by decide +kernel, by decide +kernel⟩
theorem ok_InvalidRules (F : Fun K "__init__" "InvalidRules.__init__" s_InvalidRules_init fI fd) (hg : mg "GraftError" = some (.ref G)) (rd : ClX.CRead K G mc) (gi : PySem.W.findCls K (.ref G) mc "__init__" = some (.val (.builtin "ValueError.__init__"))) (oc : OexC K C) (no : PySem.W.findIn K (.ref C) "value" = some none) :
    FnOk P w K mg base CX0 1 fI fd ["self", "value"] (spInit C "value") := by
  refine F.ok sc_InvalidRules_init (fun vs H Q E h => ?_) (fun cdv A outer s H vs Q E hr h => ?_)
  · obtain ⟨a, v, rfl, _⟩ := h
    rfl
  · obtain ⟨a, v, rfl, ha, k⟩ := h
    refine ⟨_, (pss_cons (ps_expr (pe_ginit rd gi rfl hg (pa_cons (pv 0) (pa_cons pe_str pa_nil))))
      (pss_one (ps_ost (pv 0) (pv 1)))), ?_⟩
    refine ⟨.ref a, rfl, a, C, _, rfl, (by show 1 ≤ 1000; decide), oc, ha, ?_⟩
    exact ⟨v, rfl, .ref a, rfl, a, C, rfl, oc, no, .inl ⟨ha, fun dx hdx hne => k dx hdx hne⟩⟩
abbrev s_InvalidRule_init : Stmt := inClass (topS 4) 0
abbrev N_InvalidRule_init : List Str := ["self", "value"]
theorem sc_InvalidRule_init : FnScope N_InvalidRule_init ["self", "value"] (defScope s_InvalidRule_init) := ⟨rfl, rfl, rfl, by decide +kernel, rfl, by decide +kernel, by decide +kernel⟩
theorem ok_InvalidRule (F : Fun K "__init__" "InvalidRule.__init__" s_InvalidRule_init fI fd) (hg : mg "GraftError" = some (.ref G)) (rd : ClX.CRead K G mc) (gi : PySem.W.findCls K (.ref G) mc "__init__" = some (.val (.builtin "ValueError.__init__"))) (oc : OexC K C) (no : PySem.W.findIn K (.ref C) "value" = some none) :
    FnOk P w K mg base CX0 1 fI fd ["self", "value"] (spInit C "value") := by
  refine F.ok sc_InvalidRule_init (fun vs H Q E h => ?_) (fun cdv A outer s H vs Q E hr h => ?_)
  · obtain ⟨a, v, rfl, _⟩ := h
    rfl
  · obtain ⟨a, v, rfl, ha, k⟩ := h
    refine ⟨_, (pss_cons (ps_expr (pe_ginit rd gi rfl hg (pa_cons (pv 0) (pa_cons pe_str pa_nil))))
      (pss_one (ps_ost (pv 0) (pv 1)))), ?_⟩
    refine ⟨.ref a, rfl, a, C, _, rfl, (by show 1 ≤ 1000; decide), oc, ha, ?_⟩
    exact ⟨v, rfl, .ref a, rfl, a, C, rfl, oc, no, .inl ⟨ha, fun dx hdx hne => k dx hdx hne⟩⟩
abbrev s_InvalidTrees_init : Stmt := inClass (topS 5) 0
abbrev N_InvalidTrees_init : List Str := ["self", "value"]
theorem sc_InvalidTrees_init : FnScope N_InvalidTrees_init ["self", "value"] (defScope s_InvalidTrees_init) := ⟨rfl, rfl, rfl, by decide +kernel, rfl, by decide +kernel, by decide +kernel⟩
theorem ok_InvalidTrees (F : Fun K "__init__" "InvalidTrees.__init__" s_InvalidTrees_init fI fd) (hg : mg "GraftError" = some (.ref G)) (rd : ClX.CRead K G mc) (gi : PySem.W.findCls K (.ref G) mc "__init__" = some (.val (.builtin "ValueError.__init__"))) (oc : OexC K C) (no : PySem.W.findIn K (.ref C) "value" = some none) :
    FnOk P w K mg base CX0 1 fI fd ["self", "value"] (spInit C "value") := by
  refine F.ok sc_InvalidTrees_init (fun vs H Q E h => ?_) (fun cdv A outer s H vs Q E hr h => ?_)
  · obtain ⟨a, v, rfl, _⟩ := h
    rfl
  · obtain ⟨a, v, rfl, ha, k⟩ := h
    refine ⟨_, (pss_cons (ps_expr (pe_ginit rd gi rfl hg (pa_cons (pv 0) (pa_cons pe_str pa_nil))))
      (pss_one (ps_ost (pv 0) (pv 1)))), ?_⟩
    refine ⟨.ref a, rfl, a, C, _, rfl, (by show 1 ≤ 1000; decide), oc, ha, ?_⟩
    exact ⟨v, rfl, .ref a, rfl, a, C, rfl, oc, no, .inl ⟨ha, fun dx hdx hne => k dx hdx hne⟩⟩
abbrev s_InvalidText_init : Stmt := inClass (topS 6) 0
abbrev N_InvalidText_init : List Str := ["self", "value"]
theorem sc_InvalidText_init : FnScope N_InvalidText_init ["self", "value"] (defScope s_InvalidText_init) := ⟨rfl, rfl, rfl, by decide +kernel, rfl, by decide +kernel, by decide +kernel⟩
theorem ok_InvalidText (F : Fun K "__init__" "InvalidText.__init__" s_InvalidText_init fI fd) (hg : mg "GraftError" = some (.ref G)) (rd : ClX.CRead K G mc) (gi : PySem.W.findCls K (.ref G) mc "__init__" = some (.val (.builtin "ValueError.__init__"))) (oc : OexC K C) (no : PySem.W.findIn K (.ref C) "value" = some none) :
    FnOk P w K mg base CX0 1 fI fd ["self", "value"] (spInit C "value") := by
  refine F.ok sc_InvalidText_init (fun vs H Q E h => ?_) (fun cdv A outer s H vs Q E hr h => ?_)
  · obtain ⟨a, v, rfl, _⟩ := h
    rfl
  · obtain ⟨a, v, rfl, ha, k⟩ := h
    refine ⟨_, (pss_cons (ps_expr (pe_ginit rd gi rfl hg (pa_cons (pv 0) (pa_cons pe_str pa_nil))))
      (pss_one (ps_ost (pv 0) (pv 1)))), ?_⟩
    refine ⟨.ref a, rfl, a, C, _, rfl, (by show 1 ≤ 1000; decide), oc, ha, ?_⟩
    exact ⟨v, rfl, .ref a, rfl, a, C, rfl, oc, no, .inl ⟨ha, fun dx hdx hne => k dx hdx hne⟩⟩
abbrev s_InvalidReading_init : Stmt := inClass (topS 7) 0
abbrev N_InvalidReading_init : List Str := ["self", "value"]
theorem sc_InvalidReading_init : FnScope N_InvalidReading_init ["self", "value"] (defScope s_InvalidReading_init) := ⟨rfl, rfl, rfl, by decide +kernel, rfl, by decide +kernel, by decide +kernel⟩
theorem ok_InvalidReading (F : Fun K "__init__" "InvalidReading.__init__" s_InvalidReading_init fI fd) (hg : mg "GraftError" = some (.ref G)) (rd : ClX.CRead K G mc) (gi : PySem.W.findCls K (.ref G) mc "__init__" = some (.val (.builtin "ValueError.__init__"))) (oc : OexC K C) (no : PySem.W.findIn K (.ref C) "value" = some none) :
    FnOk P w K mg base CX0 1 fI fd ["self", "value"] (spInit C "value") := by
  refine F.ok sc_InvalidReading_init (fun vs H Q E h => ?_) (fun cdv A outer s H vs Q E hr h => ?_)
  · obtain ⟨a, v, rfl, _⟩ := h
    rfl
  · obtain ⟨a, v, rfl, ha, k⟩ := h
    refine ⟨_, (pss_cons (ps_expr (pe_ginit rd gi rfl hg (pa_cons (pv 0) (pa_cons pe_str pa_nil))))
      (pss_one (ps_ost (pv 0) (pv 1)))), ?_⟩
    refine ⟨.ref a, rfl, a, C, _, rfl, (by show 1 ≤ 1000; decide), oc, ha, ?_⟩
    exact ⟨v, rfl, .ref a, rfl, a, C, rfl, oc, no, .inl ⟨ha, fun dx hdx hne => k dx hdx hne⟩⟩
abbrev s_InvalidRun_init : Stmt := inClass (topS 8) 0
abbrev N_InvalidRun_init : List Str := ["self", "value"]
theorem sc_InvalidRun_init : FnScope N_InvalidRun_init ["self", "value"] (defScope s_InvalidRun_init) := ⟨rfl, rfl, rfl, by decide +kernel, rfl, by decide +kernel, by decide +kernel⟩
theorem ok_InvalidRun (F : Fun K "__init__" "InvalidRun.__init__" s_InvalidRun_init fI fd) (hg : mg "GraftError" = some (.ref G)) (rd : ClX.CRead K G mc) (gi : PySem.W.findCls K (.ref G) mc "__init__" = some (.val (.builtin "ValueError.__init__"))) (oc : OexC K C) (no : PySem.W.findIn K (.ref C) "value" = some none) :
    FnOk P w K mg base CX0 1 fI fd ["self", "value"] (spInit C "value") := by
  refine F.ok sc_InvalidRun_init (fun vs H Q E h => ?_) (fun cdv A outer s H vs Q E hr h => ?_)
  · obtain ⟨a, v, rfl, _⟩ := h
    rfl
  · obtain ⟨a, v, rfl, ha, k⟩ := h
    refine ⟨_, (pss_cons (ps_expr (pe_ginit rd gi rfl hg (pa_cons (pv 0) (pa_cons pe_str pa_nil))))
      (pss_one (ps_ost (pv 0) (pv 1)))), ?_⟩
    refine ⟨.ref a, rfl, a, C, _, rfl, (by show 1 ≤ 1000; decide), oc, ha, ?_⟩
    exact ⟨v, rfl, .ref a, rfl, a, C, rfl, oc, no, .inl ⟨ha, fun dx hdx hne => k dx hdx hne⟩⟩
abbrev s_InvalidPlaces_init : Stmt := inClass (topS 9) 0
abbrev N_InvalidPlaces_init : List Str := ["self", "value"]
theorem sc_InvalidPlaces_init : FnScope N_InvalidPlaces_init ["self", "value"] (defScope s_InvalidPlaces_init) := ⟨rfl, rfl, rfl, by decide +kernel, rfl, by decide +kernel, by decide +kernel⟩
theorem ok_InvalidPlaces (F : Fun K "__init__" "InvalidPlaces.__init__" s_InvalidPlaces_init fI fd) (hg : mg "GraftError" = some (.ref G)) (rd : ClX.CRead K G mc) (gi : PySem.W.findCls K (.ref G) mc "__init__" = some (.val (.builtin "ValueError.__init__"))) (oc : OexC K C) (no : PySem.W.findIn K (.ref C) "value" = some none) :
    FnOk P w K mg base CX0 1 fI fd ["self", "value"] (spInit C "value") := by
  refine F.ok sc_InvalidPlaces_init (fun vs H Q E h => ?_) (fun cdv A outer s H vs Q E hr h => ?_)
  · obtain ⟨a, v, rfl, _⟩ := h
    rfl
  · obtain ⟨a, v, rfl, ha, k⟩ := h
    refine ⟨_, (pss_cons (ps_expr (pe_ginit rd gi rfl hg (pa_cons (pv 0) (pa_cons pe_str pa_nil))))
      (pss_one (ps_ost (pv 0) (pv 1)))), ?_⟩
    refine ⟨.ref a, rfl, a, C, _, rfl, (by show 1 ≤ 1000; decide), oc, ha, ?_⟩
    exact ⟨v, rfl, .ref a, rfl, a, C, rfl, oc, no, .inl ⟨ha, fun dx hdx hne => k dx hdx hne⟩⟩
abbrev s_InvalidQuestion_init : Stmt := inClass (topS 10) 0
abbrev N_InvalidQuestion_init : List Str := ["self", "value"]
theorem sc_InvalidQuestion_init : FnScope N_InvalidQuestion_init ["self", "value"] (defScope s_InvalidQuestion_init) := ⟨rfl, rfl, rfl, by decide +kernel, rfl, by decide +kernel, by decide +kernel⟩
theorem ok_InvalidQuestion (F : Fun K "__init__" "InvalidQuestion.__init__" s_InvalidQuestion_init fI fd) (hg : mg "GraftError" = some (.ref G)) (rd : ClX.CRead K G mc) (gi : PySem.W.findCls K (.ref G) mc "__init__" = some (.val (.builtin "ValueError.__init__"))) (oc : OexC K C) (no : PySem.W.findIn K (.ref C) "value" = some none) :
    FnOk P w K mg base CX0 1 fI fd ["self", "value"] (spInit C "value") := by
  refine F.ok sc_InvalidQuestion_init (fun vs H Q E h => ?_) (fun cdv A outer s H vs Q E hr h => ?_)
  · obtain ⟨a, v, rfl, _⟩ := h
    rfl
  · obtain ⟨a, v, rfl, ha, k⟩ := h
    refine ⟨_, (pss_cons (ps_expr (pe_ginit rd gi rfl hg (pa_cons (pv 0) (pa_cons pe_str pa_nil))))
      (pss_one (ps_ost (pv 0) (pv 1)))), ?_⟩
    refine ⟨.ref a, rfl, a, C, _, rfl, (by show 1 ≤ 1000; decide), oc, ha, ?_⟩
    exact ⟨v, rfl, .ref a, rfl, a, C, rfl, oc, no, .inl ⟨ha, fun dx hdx hne => k dx hdx hne⟩⟩
abbrev s_InvalidClaim_init : Stmt := inClass (topS 11) 0
abbrev N_InvalidClaim_init : List Str := ["self", "value"]
theorem sc_InvalidClaim_init : FnScope N_InvalidClaim_init ["self", "value"] (defScope s_InvalidClaim_init) := ⟨rfl, rfl, rfl, by decide +kernel, rfl, by decide +kernel, by decide +kernel⟩
theorem ok_InvalidClaim (F : Fun K "__init__" "InvalidClaim.__init__" s_InvalidClaim_init fI fd) (hg : mg "GraftError" = some (.ref G)) (rd : ClX.CRead K G mc) (gi : PySem.W.findCls K (.ref G) mc "__init__" = some (.val (.builtin "ValueError.__init__"))) (oc : OexC K C) (no : PySem.W.findIn K (.ref C) "value" = some none) :
    FnOk P w K mg base CX0 1 fI fd ["self", "value"] (spInit C "value") := by
  refine F.ok sc_InvalidClaim_init (fun vs H Q E h => ?_) (fun cdv A outer s H vs Q E hr h => ?_)
  · obtain ⟨a, v, rfl, _⟩ := h
    rfl
  · obtain ⟨a, v, rfl, ha, k⟩ := h
    refine ⟨_, (pss_cons (ps_expr (pe_ginit rd gi rfl hg (pa_cons (pv 0) (pa_cons pe_str pa_nil))))
      (pss_one (ps_ost (pv 0) (pv 1)))), ?_⟩
    refine ⟨.ref a, rfl, a, C, _, rfl, (by show 1 ≤ 1000; decide), oc, ha, ?_⟩
    exact ⟨v, rfl, .ref a, rfl, a, C, rfl, oc, no, .inl ⟨ha, fun dx hdx hne => k dx hdx hne⟩⟩
abbrev s_Endless_init : Stmt := inClass (topS 12) 0
abbrev N_Endless_init : List Str := ["self", "kind"]
theorem sc_Endless_init : FnScope N_Endless_init ["self", "kind"] (defScope s_Endless_init) := ⟨rfl, rfl, rfl, by decide +kernel, rfl, by decide +kernel, by decide +kernel⟩
theorem ok_Endless (F : Fun K "__init__" "Endless.__init__" s_Endless_init fI fd) (hg : mg "GraftError" = some (.ref G)) (rd : ClX.CRead K G mc) (gi : PySem.W.findCls K (.ref G) mc "__init__" = some (.val (.builtin "ValueError.__init__"))) (oc : OexC K C) (no : PySem.W.findIn K (.ref C) "kind" = some none) :
    FnOk P w K mg base CX0 1 fI fd ["self", "kind"] (spInit C "kind") := by
  refine F.ok sc_Endless_init (fun vs H Q E h => ?_) (fun cdv A outer s H vs Q E hr h => ?_)
  · obtain ⟨a, v, rfl, _⟩ := h
    rfl
  · obtain ⟨a, v, rfl, ha, k⟩ := h
    refine ⟨_, (pss_cons (ps_expr (pe_ginit rd gi rfl hg (pa_cons (pv 0) (pa_cons pe_str pa_nil))))
      (pss_one (ps_ost (pv 0) (pv 1)))), ?_⟩
    refine ⟨.ref a, rfl, a, C, _, rfl, (by show 1 ≤ 1000; decide), oc, ha, ?_⟩
    exact ⟨v, rfl, .ref a, rfl, a, C, rfl, oc, no, .inl ⟨ha, fun dx hdx hne => k dx hdx hne⟩⟩
abbrev s_Undefined_init : Stmt := inClass (topS 13) 0
abbrev N_Undefined_init : List Str := ["self", "what"]
theorem sc_Undefined_init : FnScope N_Undefined_init ["self", "what"] (defScope s_Undefined_init) := ⟨rfl, rfl, rfl, by decide +kernel, rfl, by decide +kernel, by decide +kernel⟩
theorem ok_Undefined (F : Fun K "__init__" "Undefined.__init__" s_Undefined_init fI fd) (hg : mg "GraftError" = some (.ref G)) (rd : ClX.CRead K G mc) (gi : PySem.W.findCls K (.ref G) mc "__init__" = some (.val (.builtin "ValueError.__init__"))) (oc : OexC K C) (no : PySem.W.findIn K (.ref C) "what" = some none) :
    FnOk P w K mg base CX0 1 fI fd ["self", "what"] (spInit C "what") := by
  refine F.ok sc_Undefined_init (fun vs H Q E h => ?_) (fun cdv A outer s H vs Q E hr h => ?_)
  · obtain ⟨a, v, rfl, _⟩ := h
    rfl
  · obtain ⟨a, v, rfl, ha, k⟩ := h
    refine ⟨_, (pss_cons (ps_expr (pe_ginit rd gi rfl hg (pa_cons (pv 0) (pa_cons pe_str pa_nil))))
      (pss_one (ps_ost (pv 0) (pv 1)))), ?_⟩
    refine ⟨.ref a, rfl, a, C, _, rfl, (by show 1 ≤ 1000; decide), oc, ha, ?_⟩
    exact ⟨v, rfl, .ref a, rfl, a, C, rfl, oc, no, .inl ⟨ha, fun dx hdx hne => k dx hdx hne⟩⟩
abbrev s_NothingToUndo_init : Stmt := inClass (topS 14) 0
abbrev N_NothingToUndo_init : List Str := ["self", "word"]
theorem sc_NothingToUndo_init : FnScope N_NothingToUndo_init ["self", "word"] (defScope s_NothingToUndo_init) := ⟨rfl, rfl, rfl, by decide +kernel, rfl, by decide +kernel, by decide +kernel⟩
theorem ok_NothingToUndo (F : Fun K "__init__" "NothingToUndo.__init__" s_NothingToUndo_init fI fd) (hg : mg "GraftError" = some (.ref G)) (rd : ClX.CRead K G mc) (gi : PySem.W.findCls K (.ref G) mc "__init__" = some (.val (.builtin "ValueError.__init__"))) (oc : OexC K C) (no : PySem.W.findIn K (.ref C) "word" = some none) :
    FnOk P w K mg base CX0 1 fI fd ["self", "word"] (spInit C "word") := by
  refine F.ok sc_NothingToUndo_init (fun vs H Q E h => ?_) (fun cdv A outer s H vs Q E hr h => ?_)
  · obtain ⟨a, v, rfl, _⟩ := h
    rfl
  · obtain ⟨a, v, rfl, ha, k⟩ := h
    refine ⟨_, (pss_cons (ps_expr (pe_ginit rd gi rfl hg (pa_cons (pv 0) (pa_cons pe_str pa_nil))))
      (pss_one (ps_ost (pv 0) (pv 1)))), ?_⟩
    refine ⟨.ref a, rfl, a, C, _, rfl, (by show 1 ≤ 1000; decide), oc, ha, ?_⟩
    exact ⟨v, rfl, .ref a, rfl, a, C, rfl, oc, no, .inl ⟨ha, fun dx hdx hne => k dx hdx hne⟩⟩
end
end K01

namespace K01
open PySem PySem.Spec PyProof.Rows L2 Evl Ex Dx
structure TB (mg : Str → Option Value) : Prop where
  m_len : mg "len" = none
  m_abs : mg "abs" = none
  m_int : mg "int" = none
  m_str : mg "str" = none
  m_bool : mg "bool" = none
  m_isinstance : mg "isinstance" = none
  m_range : mg "range" = none
  m_ValueError : mg "ValueError" = none
section
variable {P : Program} {w : World} {K : PySem.W.Frag} {mg : Str → Option Value} {base : Heap} {f : Addr} {fd : FuncData}
/-! ### draws -/
abbrev s_law_box : Stmt := topS 34
abbrev N_law_box : List Str := ["script", "k", "cell", "great"]
theorem sc_law_box : FnScope N_law_box ["script", "k"] (defScope s_law_box) := ⟨rfl, rfl, rfl, by decide +kernel, rfl, by decide +kernel, by decide +kernel⟩
theorem ok_box (F : Fun K "_law_box" "_law_box" s_law_box f fd) (T : TB mg) : FnOk P w K mg base CX0 1 f fd ["script", "k"] (spBox K) := by
  refine F.ok sc_law_box (fun vs H Q E h => ?_) (fun cdv A outer s H vs Q E hr h => ?_)
  · obtain ⟨a, k, ns, B, rfl, _⟩ := h
    rfl
  · obtain ⟨a, k, ns, B, rfl, e, hS, hl, k0, k1, q⟩ := h
    refine ⟨_, (pss_cons (ps_set (i := 2) sc_law_box.nd rfl (Or.inl rfl) (pe_op (op_addK K) (pe_op op_mul pe_int (pv 1)) pe_int))
      (Evl.pss_cut (ps_if (pt_cmpR op_lt (pv 1) (pe_callB (call_lenK K) (by rfl) T.m_len bt_len (pa_cons (pv 0) pa_nil)) (nomark _)) (pss_one (ps_set (i := 2) sc_law_box.nd rfl (Or.inl rfl) (pe_callB call_abs (by rfl) T.m_abs bt_abs (pa_cons (pe_ix (ix_seqK K) (pv 0) (pv 1) (fun _ _ => rfl)) pa_nil)))) (pss_one (ps_if (pt_cmpR op_gt (pe_callB (call_lenK K) (by rfl) T.m_len bt_len (pa_cons (pv 0) pa_nil)) pe_int (nomark _)) (pss_one (ps_set (i := 2) sc_law_box.nd rfl (Or.inl rfl) (pe_op (op_addK K) (pe_op op_mul (pe_op op_mod (pe_callTy call_int1 (by rfl) T.m_int bt_int (pa_cons (pe_callB call_abs (by rfl) T.m_abs bt_abs (pa_cons (pe_ix (ix_seqK K) (pv 0) (pe_op op_mod (pe_callTy call_int1 (by rfl) T.m_int bt_int (pa_cons (pv 1) pa_nil)) (pe_callB (call_lenK K) (by rfl) T.m_len bt_len (pa_cons (pv 0) pa_nil))) (fun _ _ => rfl)) pa_nil)) pa_nil)) pe_int) pe_int) (pe_op op_mul pe_int (pv 1))))) pss_nil)))
      (pss_cons (ps_set (i := 3) sc_law_box.nd rfl (Or.inl rfl) (pe_ix (ix_seqK K) (pe_lst (pa_cons pe_int (pa_cons (pv 2) pa_nil))) (pe_callTy call_int1 (by rfl) T.m_int bt_int (pa_cons (pe_cmpR op_ge (pv 2) (pe_op op_pow pe_int pe_int) (nomark _)) pa_nil)) (fun _ _ => rfl)))
      (pss_one (ps_ret (pe_lst (pa_cons (pv 3) (pa_cons (pe_op (op_addK K) (pe_op op_mod (pe_callTy call_int1 (by rfl) T.m_int bt_int (pa_cons (pe_op (op_addK K) (pe_op op_mul (pe_op op_mod (pe_callTy call_int1 (by rfl) T.m_int bt_int (pa_cons (pv 2) pa_nil)) pe_int) pe_int) (pe_op op_mul pe_int (pv 1))) pa_nil)) pe_int) pe_int) pa_nil)))))))), ?_⟩
    have a0 : At Fm.pure B H B H := At.start (Ok.any e)
    have lenS : ∀ (σ : L2.St) B1, σ[0]? = some (some (V.ref a)) → Ex B B1 → ED Fm.pure K (tCB (fun xs H Q => ∃ x n, xs = [x] ∧ LenV K x H n ∧ Q (.int (n : Nat)) H) (tCons (tVar 0) tNil)) σ B1 (.int (ns.length : Nat)) := by
      intro σ B1 hσ e1 B2 e2 H2 j2 Q q
      exact ⟨.ref a, hσ, .ref a, ns.length, rfl, .inl ⟨_, ex_l j2.e (ex_l (e1.trans e2) hS), by rw [List.length_map]⟩, q _ B2 H2 (Step.refl j2.e) j2 (.int _)⟩
    have ixS : ∀ (σ : L2.St) B1 (i : Int) (ti : TE), σ[0]? = some (some (V.ref a)) → Ex B B1 → ED Fm.pure K ti σ B1 (.int i) → 0 ≤ i → i < (ns.length : Nat) → EV Fm.pure (tOp (rIx K) (tVar 0) ti) σ B1 (fun v _ => ∃ n : Int, v = .int n) := by
      intro σ B1 i ti hσ e1 hi h0 h1 B2 e2 H2 j2 Q q
      refine ⟨.ref a, hσ, hi B2 e2 H2 j2 _ fun v B3 H3 s3 j3 g => ?_⟩
      obtain rfl := dd_int g
      have hlt : i.toNat < ns.length := by omega
      have hx : (ns.map V.int)[i.toNat]? = some (V.int ns[i.toNat]) := by rw [List.getElem?_map, List.getElem?_eq_getElem hlt]; rfl
      refine .inl ⟨a, _, i, _, rfl, rfl, ex_l j3.e (ex_l ((e1.trans e2).trans s3.bb) hS), at_of (by omega) hx, q _ B3 H3 s3 j3 ⟨_, rfl⟩⟩
    have absE : ∀ (σ : L2.St) B1 (te : TE), EV Fm.pure te σ B1 (fun v _ => ∃ n : Int, v = .int n) → EV Fm.pure (tCB (fun xs H Q => ∃ i, xs = [.int i] ∧ Q (.int (if i < 0 then -i else i)) H) (tCons te tNil)) σ B1 (fun v _ => ∃ n : Int, v = .int n) := by
      intro σ B1 te h B2 e2 H2 j2 Q q
      exact h B2 e2 H2 j2 _ fun v B3 H3 s3 j3 ⟨n, hn⟩ => ⟨n, by rw [hn], q _ B3 H3 s3 j3 ⟨_, rfl⟩⟩
    have intE : ∀ (σ : L2.St) B1 (te : TE), EV Fm.pure te σ B1 (fun v _ => ∃ n : Int, v = .int n) → EV Fm.pure (tCB (fun xs H Q => (∃ i, xs = [.int i] ∧ Q (.int i) H) ∨ ∃ k, xs = [.bl k] ∧ Q (.int (if k then 1 else 0)) H) (tCons te tNil)) σ B1 (fun v _ => ∃ n : Int, v = .int n) := by
      intro σ B1 te h B2 e2 H2 j2 Q q
      exact h B2 e2 H2 j2 _ fun v B3 H3 s3 j3 ⟨n, hn⟩ => .inl ⟨n, by rw [hn], q _ B3 H3 s3 j3 ⟨_, rfl⟩⟩
    have upI : Upc (fun v _ => ∃ n : Int, v = V.int n) := fun _ _ _ _ h => h
    refine qv_asg a0 (ed_op (ed_op ed_int (ed_var rfl (.int k)) (rd_mul (.inl ⟨by decide, by decide⟩))) ed_int rd_add) fun v B1 H1 e1 a1 hv => ?_
    obtain rfl := dd_int hv
    refine ⟨fun σ' H' => ∃ c : Int, ∃ B', σ' = [some (.ref a), some (.int k), some (.int c), none] ∧ Ex B B' ∧ At Fm.pure B H B' H', ?_, ?_⟩
    · refine sv_if a1 (et_cmp (ed_op (ed_var rfl (.int k)) (lenS _ B1 rfl e1) rd_lt)) (fun hk B2 H2 e2 a2 => ?_) (fun hk B2 H2 e2 a2 => ?_)
      · have hk' : k < (ns.length : Nat) := of_decide_eq_true hk
        refine sv_asg a2 (absE _ B2 _ (ixS _ B2 k _ rfl (e1.trans e2) (ed_var rfl (.int k)) k0 hk')) fun v B3 H3 e3 a3 hv => ?_
        obtain ⟨c, rfl⟩ := hv
        exact ⟨c, B3, rfl, (e1.trans e2).trans e3, a3⟩
      · refine sv_if a2 (et_cmp (ed_op (lenS _ B2 rfl (e1.trans e2)) ed_int rd_gt)) (fun hz B3 H3 e3 a3 => ?_) (fun hz B3 H3 e3 a3 => ?_)
        · have hz' : (0 : Int) < (ns.length : Nat) := of_decide_eq_true hz
          have eb := (e1.trans e2).trans e3
          have ei : ED Fm.pure K (tOp (rI (fun _ j => 0 < j) fun i j => .int (i % j)) (tCB (fun xs H Q => (∃ i, xs = [.int i] ∧ Q (.int i) H) ∨ ∃ k, xs = [.bl k] ∧ Q (.int (if k then 1 else 0)) H) (tCons (tVar 1) tNil)) (tCB (fun xs H Q => ∃ x n, xs = [x] ∧ LenV K x H n ∧ Q (.int (n : Nat)) H) (tCons (tVar 0) tNil))) [some (.ref a), some (.int k), some (.int (7919 * k + 101)), none] B3 (.int (k % (ns.length : Nat))) :=
            ed_op (ev_cb (eds_cons (ed_var rfl (.int k)) eds_nil) rc_int1) (lenS _ B3 rfl eb) (rd_mod hz')
          have e5 := intE _ B3 _ (absE _ B3 _ (ixS _ B3 _ _ rfl eb ei (Int.emod_nonneg k (by omega)) (Int.emod_lt_of_pos k hz')))
          refine sv_asg (P := fun v _ => ∃ n : Int, v = .int n) a3 (ev_op (ev_op (P' := DD K (.int 31)) (Z := fun v _ => ∃ n : Int, v = .int n) (ev_op (P' := DD K (.int 1000000007)) (Z := fun v _ => ∃ n : Int, v = .int n) e5 ed_int upI ?_) ed_int upI ?_) (P' := DD K (.int (7919 * k))) (ed_op ed_int (ed_var rfl (.int k)) (rd_mul (.inl ⟨by decide, by decide⟩))) upI ?_) fun v B4 H4 e4 a4 hv => ?_
          · intro B6 _ H6 u v j6 ⟨n, hu⟩ hv Q q
            exact ⟨n, 1000000007, hu, dd_int hv, (show (0 : Int) < 1000000007 by decide), q _ B6 H6 (Step.refl j6.e) j6 ⟨_, rfl⟩⟩
          · intro B6 _ H6 u v j6 ⟨n, hu⟩ hv Q q
            exact ⟨n, 31, hu, dd_int hv, .inr ⟨by decide, by decide⟩, q _ B6 H6 (Step.refl j6.e) j6 ⟨_, rfl⟩⟩
          · intro B6 _ H6 u v j6 ⟨n, hu⟩ hv Q q
            exact .inl ⟨n, _, hu, dd_int hv, q _ B6 H6 (Step.refl j6.e) j6 ⟨_, rfl⟩⟩
          obtain ⟨c, rfl⟩ := hv
          exact ⟨c, B4, rfl, eb.trans e4, a4⟩
        · exact ⟨_, B3, rfl, (e1.trans e2).trans e3, a3⟩
    · rintro σ' H' ⟨c, B4, rfl, e4, a4⟩
      refine qv_asg (P := fun v _ => ∃ n : Int, v = .int n) a4 (ev_op (P := DD K (.list [.int 0, .int c])) (P' := DD K (.int (if decide ((10 : Int) ^ (18 : Int).toNat ≤ c) = true then 1 else 0))) (ed_lst (eds_cons ed_int (eds_cons (ed_var rfl (.int c)) eds_nil))) (ev_cb (eds_cons (ed_op (ed_var rfl (.int c)) (ed_op ed_int ed_int (rd_pow ⟨by decide, by decide, by decide⟩)) rd_ge) eds_nil) rc_intB) upc_dd ?_) fun v B5 H5 e5 a5 hv => ?_
      · intro B6 _ H6 u v j6 hu hv Q q
        obtain rfl := dd_int hv
        refine rd_ixL (F := Fm.pure) (K := K) (B := B6) (d := .int (if decide ((10 : Int) ^ (18 : Int).toNat ≤ c) = true then c else 0)) ?_ B6 (Ex.refl B6) H6 u _ j6 hu (.int _) Q fun w B7 H7 s7 k7 g => q w B7 H7 s7 k7 ⟨_, dd_int g⟩
        by_cases hc : decide ((10 : Int) ^ (18 : Int).toNat ≤ c) = true
        · rw [if_pos hc, if_pos hc]
          rfl
        · rw [if_neg hc, if_neg hc]
          rfl
      obtain ⟨g, rfl⟩ := hv
      refine sv_retL (K := K) (ds := [.int g, .int (((c % 1000000007 * 48271 + 613 * k) % 2147483647) + 1)]) a5 (eds_cons (ed_var rfl (.int g)) (eds_cons (ed_op (ed_op (ev_cb (eds_cons (ed_op (ed_op (ed_op (ev_cb (eds_cons (ed_var rfl (.int c)) eds_nil) rc_int1) ed_int (rd_mod (by decide))) ed_int (rd_mul (.inr ⟨by decide, by decide⟩))) (ed_op ed_int (ed_var rfl (.int k)) (rd_mul (.inl ⟨by decide, by decide⟩))) rd_add) eds_nil) rc_int1) ed_int (rd_mod (by decide))) ed_int rd_add) eds_nil)) fun vs B6 H6 s6 j6 g6 => ⟨?_, fun p hp => ?_⟩
      · rw [DdAll.len g6]
        show 2 ≤ sizeLine
        decide
      · cases g6 with
        | cons g1 t =>
          cases t with
          | cons g2 t =>
            cases t
            obtain rfl := dd_int g1
            obtain rfl := dd_int g2
            have a6 := a5.next s6 j6
            have hpB : B6 p = none := fresh_back j6.e hp
            have s7 : Step (fun _ => False) B6 H6 B6 (upd H6 p (.lst [.int g, .int (((c % 1000000007 * 48271 + 613 * k) % 2147483647) + 1)])) :=
              ⟨Ex.refl B6, fun x o h => by rw [upd_ne (ne_of_none h hpB)]; exact j6.e x o h, fun x o _ h => by rw [upd_ne (ne_of_none h hp)]; exact h, fun x h _ => h, fun x n => by
                have hx : x ≠ p := fun z => n (z ▸ hp)
                rw [upd_ne hx]
                exact n⟩
            exact q p B6 _ (a6.st.trans s7) ⟨s7.bh, ⟨g, _, upd_same⟩, fun x m => by
              have m' : x = p := m
              rw [m']
              exact hpB⟩
abbrev s_law_take : Stmt := topS 35
abbrev N_law_take : List Str := ["box", "many", "got"]
theorem sc_law_take : FnScope N_law_take ["box", "many"] (defScope s_law_take) := ⟨rfl, rfl, rfl, by decide +kernel, rfl, by decide +kernel, by decide +kernel⟩
theorem ok_take (F : Fun K "_law_take" "_law_take" s_law_take f fd) (T : TB mg) : FnOk P w K mg base CX0 1 f fd ["box", "many"] (spTake K) := by
  refine F.ok sc_law_take (fun vs H Q E h => ?_) (fun cdv A outer s H vs Q E hr h => ?_)
  · obtain ⟨p, us, B, ds, rfl, ok, hu, ⟨m, rfl, hm⟩, k⟩ := h
    cases hu with
    | cons h1 t =>
      cases t
      rfl
  · obtain ⟨p, us, B, ds, rfl, ok, hu, ⟨m, rfl, h0, h1⟩, k⟩ := h
    cases hu with
    | cons hm t =>
      cases t
      obtain rfl := dd_int hm
      obtain ⟨g, s, hp⟩ := ok.j
      refine ⟨_, (pss_cons (ps_if (pt_cmpR op_gt (pe_ix (ix_seqK K) (pv 0) pe_int (fun _ _ => rfl)) pe_int (nomark _)) (pss_cons (ps_set (i := 2) sc_law_take.nd rfl (Or.inl rfl) (pe_op op_mod (pe_callTy call_int1 (by rfl) T.m_int bt_int (pa_cons (pe_ix (ix_seqK K) (pv 0) pe_int (fun _ _ => rfl)) pa_nil)) (pv 1)))
      (pss_cons (ps_asg (pe_op op_fdiv (pe_ix (ix_seqK K) (pv 0) pe_int (fun _ _ => rfl)) (pv 1)) (pg_sub (pv 0) pe_int set_list))
      (pss_one (ps_ret (pv 2))))) pss_nil)
      (pss_cons (ps_asg (pe_op op_mod (pe_callTy call_int1 (by rfl) T.m_int bt_int (pa_cons (pe_op (op_addK K) (pe_op op_mul (pe_ix (ix_seqK K) (pv 0) pe_int (fun _ _ => rfl)) pe_int) pe_int) pa_nil)) pe_int) (pg_sub (pv 0) pe_int set_list))
      (pss_one (ps_ret (pe_op op_mod (pe_callTy call_int1 (by rfl) T.m_int bt_int (pa_cons (pe_op op_fdiv (pe_ix (ix_seqK K) (pv 0) pe_int (fun _ _ => rfl)) pe_int) pa_nil)) (pv 1)))))), ?_⟩
      have a : At Fm.pure H H H H := At.start (Ok.any (Ex.refl H))
      have hb : Dd K H (.ref p) (.list [.int g, .int s]) := .lst hp (by show 2 ≤ sizeLine; decide) (.cons (.int g) (.cons (.int s) .nil))
      have fin : ∀ (g' s' got : Int) B1 H1, At Fm.pure H H B1 H1 → 0 ≤ got → got < m → Q (.int got) (upd H1 p (.lst [.int g', .int s'])) := by
        intro g' s' got B1 H1 a1 q0 q1
        have eH : Ex H H1 := a1.st.ex
        have st : Step (fun x => x = p) B H B (upd H1 p (.lst [.int g', .int s'])) := ⟨Ex.refl B, fun x o h => by
            have hx : x ≠ p := fun z => by
              rw [z, ok.av p rfl] at h
              cases h
            rw [upd_ne hx]
            exact eH x o (ok.e x o h), fun x o n h => by
            rw [upd_ne n]
            exact eH x o h, fun x h _ => h, fun x n => by
            by_cases hx : x = p
            · rw [hx, upd_same]
              exact fun z => nomatch z
            · rw [upd_ne hx]
              exact a1.st.live x n⟩
        exact k _ B _ st ⟨st.bh, ⟨g', s', upd_same⟩, ok.av⟩ ⟨got, m, rfl, rfl, q0, q1⟩
      have hm0 : (m : Int) ≠ 0 := by omega
      refine qv_when a (et_cmp (ed_op (ed_op (ed_var rfl hb) ed_int (rd_ixL (d := .int g) rfl)) ed_int rd_gt)) (fun _ B1 H1 e1 a1 => ?_) (fun _ B1 H1 e1 a1 => ?_)
      · refine qv_asg a1 (ed_op (ev_cb (eds_cons (ed_op (ed_var rfl (hb.up e1)) ed_int (rd_ixL (d := .int g) rfl)) eds_nil) rc_int1) (ed_var rfl (.int m)) (rd_mod h0)) fun v B2 H2 e2 a2 hv => ?_
        obtain rfl := dd_int hv
        have ev : ED Fm.pure K (tOp (rI CDiv fun i j => .int (i / j)) (tOp (rIx K) (tVar 0) (tC (.int 0))) (tVar 1)) [some (.ref p), some (.int m), some (.int (g % m))] B2 (.int (g / m)) :=
          ed_op (ed_op (ed_var rfl (hb.up (e1.trans e2))) ed_int (rd_ixL (d := .int g) rfl)) (ed_var rfl (.int m)) (rd_fdiv ⟨h0, h1⟩)
        refine ev B2 (Ex.refl B2) H2 a2.j _ fun v B3 H3 s3 j3 hv => ?_
        obtain rfl := dd_int hv
        have a3 := a2.next s3 j3
        have hp3 : H3 p = some (.lst [.int g, .int s]) := a3.st.ex p _ hp
        exact ⟨.ref p, rfl, p, _, 0, 0, rfl, rfl, hp3, rfl, _, rfl, fin _ _ _ B3 H3 a3 (Int.emod_nonneg g hm0) (Int.emod_lt_of_pos g h0)⟩
      · have ev : ED Fm.pure K (tOp (rI (fun _ j => 0 < j) fun i j => .int (i % j)) (tCB (fun xs H Q => (∃ i, xs = [.int i] ∧ Q (.int i) H) ∨ ∃ k, xs = [.bl k] ∧ Q (.int (if k then 1 else 0)) H) (tCons (tOp (rAddA K) (tOp (rI CMul fun i j => .int (i * j)) (tOp (rIx K) (tVar 0) (tC (.int 1))) (tC (.int 39373))) (tC (.int 69621))) tNil)) (tC (.int 2147483647))) [some (.ref p), some (.int m), none] B1 (.int ((s * 39373 + 69621) % 2147483647)) :=
          ed_op (ev_cb (eds_cons (ed_op (ed_op (ed_op (ed_var rfl (hb.up e1)) ed_int (rd_ixL (d := .int s) rfl)) ed_int (rd_mul (.inr ⟨by decide, by decide⟩))) ed_int rd_add) eds_nil) rc_int1) ed_int (rd_mod (by decide))
        refine ev B1 (Ex.refl B1) H1 a1.j _ fun v B2 H2 s2 j2 hv => ?_
        obtain rfl := dd_int hv
        have a2 := a1.next s2 j2
        have hp2 : H2 p = some (.lst [.int g, .int s]) := a2.st.ex p _ hp
        refine ⟨.ref p, rfl, p, _, 1, 1, rfl, rfl, hp2, rfl, ?_⟩
        have hup : upd H2 p (.lst [.int g, .int ((s * 39373 + 69621) % 2147483647)]) p = some (.lst [.int g, .int ((s * 39373 + 69621) % 2147483647)]) := upd_same
        refine ⟨.ref p, rfl, .inl ⟨p, _, 1, .int ((s * 39373 + 69621) % 2147483647), rfl, rfl, sq_of hup, rfl, ?_⟩⟩
        refine ⟨_, 8191, rfl, rfl, ⟨by decide, by decide⟩, .inl ⟨_, rfl, _, rfl, _, m, rfl, rfl, h0, ?_⟩⟩
        exact fin _ _ _ B2 H2 a2 (Int.emod_nonneg _ hm0) (Int.emod_lt_of_pos _ h0)
abbrev s_law_pick : Stmt := topS 36
abbrev N_law_pick : List Str := ["box", "some"]
theorem sc_law_pick : FnScope N_law_pick ["box", "some"] (defScope s_law_pick) := ⟨rfl, rfl, rfl, by decide +kernel, rfl, by decide +kernel, by decide +kernel⟩
theorem ok_pick (F : Fun K "_law_pick" "_law_pick" s_law_pick f fd) (T : TB mg) (C_law_take : Callee P w K mg base "_law_take" 1 ["box", "many"] (spTake K)) : FnOk P w K mg base CX0 2 f fd ["box", "some"] (spPick K) := by
  refine F.ok sc_law_pick (fun vs H Q E h => ?_) (fun cdv A outer s H vs Q E hr h => ?_)
  · obtain ⟨p, us, B, ds, rfl, ok, hu, ⟨d, xs, rfl, _⟩, k⟩ := h
    cases hu with
    | cons h1 t =>
      cases t
      rfl
  · obtain ⟨p, us, B, ds, rfl, ok, hu, ⟨d, xs, rfl, hd, hne, hlt⟩, k⟩ := h
    cases hu with
    | cons hm t =>
      cases t
      refine ⟨_, (pss_one (ps_ret (pe_ix (ix_seqK K) (pv 1) (pe_callC C_law_take (hr.mono (by decide)) rfl pass0 (pa_cons (pv 0) (pa_cons (pe_callB (call_lenK K) (by rfl) T.m_len bt_len (pa_cons (pv 1) pa_nil)) pa_nil))) (fun _ _ => rfl)))), ?_⟩
      have a : At (Fm.box p) B H B H := At.start ok
      have hl : hasLen d = true := by rcases hd with rfl | rfl <;> rfl
      have hn : lenD d = (xs.length : Nat) := by rcases hd with rfl | rfl <;> rfl
      have hpos : 0 < xs.length := List.length_pos_iff.mpr hne
      refine sv_ret (P := fun v B => ∃ e, e ∈ xs ∧ Dd K B v e) a (ev_op (ed_var rfl hm) (ev_take (m := lenD d) rfl (ev_cb (eds_cons (ed_var rfl hm) eds_nil) (rc_len hl)) (by rw [hn]; omega) (by rw [hn]; omega)) upc_dd (by rw [hn]; exact rv_pick hd)) fun v B1 H1 e1 a1 ⟨e, he, hv⟩ => ?_
      refine k v B1 H1 a1.st a1.j ⟨d, e, rfl, ?_, hv⟩
      rcases hd with rfl | rfl <;> exact he
end
end K01

namespace K01
open PySem PySem.Spec PyProof.Rows L2 Evl Ex Dx
/-! ### what is an integer -/
def isI : PyData → Bool
  | .int _ => true
  | _ => false
def fInt : List PyData → PyData
  | [d] => .bool (isI d)
  | _ => .none
def fBetween : List PyData → PyData
  | [.int i, .int lo, .int hi] => .bool (decide (lo ≤ i) && decide (i ≤ hi))
  | _ => .bool false
def pre1 (ds : List PyData) : Prop := ∃ d, ds = [d]
def preB (ds : List PyData) : Prop := ∃ d lo hi, ds = [d, .int lo, .int hi]
abbrev spInt (K : PySem.W.Frag) : Sp := spF K pre1 fInt
abbrev spBetween (K : PySem.W.Frag) : Sp := spF K preB fBetween
theorem one_arg {K : PySem.W.Frag} {B : Hp} {vs : List V} {d : PyData} (h : DdAll K B vs [d]) : ∃ v, vs = [v] ∧ Dd K B v d := by
  cases h with
  | cons h1 t =>
    cases t
    exact ⟨_, rfl, h1⟩
section
variable {P : Program} {w : World} {K : PySem.W.Frag} {mg : Str → Option Value} {base : Heap} {f : Addr} {fd : FuncData}

abbrev s_is_integer : Stmt := topS 17
abbrev N_is_integer : List Str := ["value"]
theorem sc_is_integer : FnScope N_is_integer ["value"] (defScope s_is_integer) := ⟨rfl, rfl, rfl, by decide +kernel, rfl, by decide +kernel, by decide +kernel⟩
theorem ok_is_integer (F : Fun K "is_integer" "is_integer" s_is_integer f fd) (T : TB mg) : FnOk P w K mg base CX0 1 f fd ["value"] (spInt K) := by
  refine F.ok sc_is_integer (fun vs H Q E h => ?_) (fun cdv A outer s H vs Q E hr h => ?_)
  · obtain ⟨B, ds, e, hd, ⟨d, rfl⟩, q⟩ := h
    obtain ⟨v, rfl, _⟩ := one_arg hd
    rfl
  · obtain ⟨B, ds, e, hd, ⟨d, rfl⟩, q⟩ := h
    obtain ⟨v, rfl, hv⟩ := one_arg hd
    refine ⟨_, (pss_one (ps_ret (pe_and (pe_callB (call_isiK1 K) (by rfl) T.m_isinstance bt_isinstance (pa_cons (pv 0) (pa_cons (pe_bltn (v := .ty "int") (by rfl) T.m_int bt_int rfl) pa_nil))) (pe_one (pe_not (pe_callB (call_isiK1 K) (by rfl) T.m_isinstance bt_isinstance (pa_cons (pv 0) (pa_cons (pe_bltn (v := .ty "bool") (by rfl) T.m_bool bt_bool rfl) pa_nil)))))))), ?_⟩
    have a : At Fm.pure B H B H := At.start (Ok.any e)
    have e2 : (isIntD d && !isBoolD d) = isI d := by cases d <;> rfl
    refine sv_ret (P := DD K (.bool (isI d))) a (ed_is (ed_andV (ed_isi (ed_var rfl hv) (kit_int d)) (fun _ => ed_notV (ed_isi (ed_var rfl hv) (kit_bool d)))) (by rw [e2])) fun v B1 H1 e1 a1 h1 => ?_
    exact q v B1 H1 a1.st h1
abbrev s_is_between : Stmt := topS 18
abbrev N_is_between : List Str := ["value", "low", "high"]
theorem sc_is_between : FnScope N_is_between ["value", "low", "high"] (defScope s_is_between) := ⟨rfl, rfl, rfl, by decide +kernel, rfl, by decide +kernel, by decide +kernel⟩
theorem ok_is_between (F : Fun K "is_between" "is_between" s_is_between f fd) (T : TB mg) (C_is_integer : Callee P w K mg base "is_integer" 1 ["value"] (spInt K)) : FnOk P w K mg base CX0 2 f fd ["value", "low", "high"] (spBetween K) := by
  refine F.ok sc_is_between (fun vs H Q E h => ?_) (fun cdv A outer s H vs Q E hr h => ?_)
  · obtain ⟨B, ds, e, hd, ⟨d, lo, hi, rfl⟩, q⟩ := h
    exact hd.len
  · obtain ⟨B, ds, e, hd, ⟨d, lo, hi, rfl⟩, q⟩ := h
    cases hd with
    | cons hv t =>
      cases t with
      | cons hlo t =>
        cases t with
        | cons hhi t =>
          cases t
          obtain rfl := dd_int hlo
          obtain rfl := dd_int hhi
          refine ⟨_, (pss_one (ps_ret (pe_and (pe_callC C_is_integer (hr.mono (by decide)) rfl pass0 (pa_cons (pv 0) pa_nil)) (pe_one (pe_chain op_le op_le (pv 1) (pv 0) (pv 2)))))), ?_⟩
          have a : At Fm.pure B H B H := At.start (Ok.any e)
          refine sv_ret (P := DD K (fBetween [d, .int lo, .int hi])) a (ed_is (ed_andV (b := isI d) (c := match d with | .int i => decide (lo ≤ i) && decide (i ≤ hi) | _ => false) (ed_F (eds_cons (ed_var rfl hv) eds_nil) ⟨d, rfl⟩ rfl) (fun hi1 => ?_)) ?_) fun v B1 H1 e1 a1 h1 => ?_
          · cases d with
            | int i =>
              obtain rfl := dd_int hv
              exact ed_chain (ed_var rfl (.int lo)) (ed_var rfl (.int i)) rd_le (fun _ => ⟨_, ed_var rfl (.int hi), rd_le⟩)
            | _ => cases hi1
          · cases d <;> rfl
          · exact q v B1 H1 a1.st h1
end
end K01

namespace K01
open PySem PySem.Spec PyProof.Rows L2 Evl Ex Dx
theorem text_ok : ∀ n : Fin 99, ((("text " : Str) ++ toString ((n : Nat) : Int)).length ≤ 100 ∧ (toString ((n : Nat) : Int) : Str).length ≤ 50) ∧ SeqAt.shaped (.str (("text " : Str) ++ toString ((n : Nat) : Int))) = true := by decide +kernel

/-! ### which class an error is of -/
def kitTab (K : PySem.W.Frag) (cs : List Addr) (G : Addr) : Bool := (List.range cs.length).all fun i => ((List.range cs.length).all fun j => PySem.W.kitOne K (.ref (cs.getD i 0)) (.ref (cs.getD j 0)) == some (i == j)) &&
  (PySem.W.kitOne K (.ref (cs.getD i 0)) (.ref G) == some true && PySem.W.kitOne K (.ref (cs.getD i 0)) (.type "ValueError") == some true)
theorem kitTab_get {K : PySem.W.Frag} {cs : List Addr} {G : Addr} (h : kitTab K cs G = true) {i j : Nat} (hi : i < cs.length) (hj : j < cs.length) : PySem.W.kitOne K (.ref (cs.getD i 0)) (.ref (cs.getD j 0)) = some (i == j) := by
  have h1 := List.all_eq_true.mp h i (List.mem_range.mpr hi)
  have h2 := List.all_eq_true.mp (Bool.and_eq_true_iff.mp h1).1 j (List.mem_range.mpr hj)
  exact beq_iff_eq.mp h2
theorem kitTab_top {K : PySem.W.Frag} {cs : List Addr} {G : Addr} (h : kitTab K cs G = true) {i : Nat} (hi : i < cs.length) : PySem.W.kitOne K (.ref (cs.getD i 0)) (.ref G) = some true ∧ PySem.W.kitOne K (.ref (cs.getD i 0)) (.type "ValueError") = some true := by
  have h1 := List.all_eq_true.mp h i (List.mem_range.mpr hi)
  have h2 := Bool.and_eq_true_iff.mp (Bool.and_eq_true_iff.mp h1).2
  exact ⟨beq_iff_eq.mp h2.1, beq_iff_eq.mp h2.2⟩
structure TX (P : Program) (w : World) (K : PySem.W.Frag) (mg : Str → Option Value) (base : Heap) (c0 c1 c2 c3 c4 c5 c6 c7 c8 c9 c10 c11 c12 G : Addr) : Prop extends TB mg where
  x_InvalidNumber : ExcAt P w K mg base "InvalidNumber" "value" c0
  x_InvalidRules : ExcAt P w K mg base "InvalidRules" "value" c1
  x_InvalidRule : ExcAt P w K mg base "InvalidRule" "value" c2
  x_InvalidTrees : ExcAt P w K mg base "InvalidTrees" "value" c3
  x_InvalidText : ExcAt P w K mg base "InvalidText" "value" c4
  x_InvalidReading : ExcAt P w K mg base "InvalidReading" "value" c5
  x_InvalidRun : ExcAt P w K mg base "InvalidRun" "value" c6
  x_InvalidPlaces : ExcAt P w K mg base "InvalidPlaces" "value" c7
  x_InvalidQuestion : ExcAt P w K mg base "InvalidQuestion" "value" c8
  x_InvalidClaim : ExcAt P w K mg base "InvalidClaim" "value" c9
  x_Endless : ExcAt P w K mg base "Endless" "kind" c10
  x_Undefined : ExcAt P w K mg base "Undefined" "what" c11
  x_NothingToUndo : ExcAt P w K mg base "NothingToUndo" "word" c12
  g_GraftError : mg "GraftError" = some (.ref G)
  c_MOST_KINDS : ∃ t, mg "MOST_KINDS" = some (.int 40 t)
  kt : kitTab K [c0, c1, c2, c3, c4, c5, c6, c7, c8, c9, c10, c11, c12] G = true
section
variable {P : Program} {w : World} {K : PySem.W.Frag} {mg : Str → Option Value} {base : Heap} {f : Addr} {fd : FuncData} {c0 c1 c2 c3 c4 c5 c6 c7 c8 c9 c10 c11 c12 G : Addr}
theorem TX.all (T : TX P w K mg base c0 c1 c2 c3 c4 c5 c6 c7 c8 c9 c10 c11 c12 G) : ∀ i, i < 13 → XfC K ([c0, c1, c2, c3, c4, c5, c6, c7, c8, c9, c10, c11, c12].getD i 0) ∧ IsC K ([c0, c1, c2, c3, c4, c5, c6, c7, c8, c9, c10, c11, c12].getD i 0) ∧ PySem.W.findIn K (.ref ([c0, c1, c2, c3, c4, c5, c6, c7, c8, c9, c10, c11, c12].getD i 0)) (([(c0, "value"), (c1, "value"), (c2, "value"), (c3, "value"), (c4, "value"), (c5, "value"), (c6, "value"), (c7, "value"), (c8, "value"), (c9, "value"), (c10, "kind"), (c11, "what"), (c12, "word")] : List (Addr × Str)).getD i ((0 : Addr), ("" : Str))).2 = some none := by
  intro i hi
  match i, hi with
  | 0, _ => exact ⟨T.x_InvalidNumber.xf, T.x_InvalidNumber.isc, T.x_InvalidNumber.no⟩
  | 1, _ => exact ⟨T.x_InvalidRules.xf, T.x_InvalidRules.isc, T.x_InvalidRules.no⟩
  | 2, _ => exact ⟨T.x_InvalidRule.xf, T.x_InvalidRule.isc, T.x_InvalidRule.no⟩
  | 3, _ => exact ⟨T.x_InvalidTrees.xf, T.x_InvalidTrees.isc, T.x_InvalidTrees.no⟩
  | 4, _ => exact ⟨T.x_InvalidText.xf, T.x_InvalidText.isc, T.x_InvalidText.no⟩
  | 5, _ => exact ⟨T.x_InvalidReading.xf, T.x_InvalidReading.isc, T.x_InvalidReading.no⟩
  | 6, _ => exact ⟨T.x_InvalidRun.xf, T.x_InvalidRun.isc, T.x_InvalidRun.no⟩
  | 7, _ => exact ⟨T.x_InvalidPlaces.xf, T.x_InvalidPlaces.isc, T.x_InvalidPlaces.no⟩
  | 8, _ => exact ⟨T.x_InvalidQuestion.xf, T.x_InvalidQuestion.isc, T.x_InvalidQuestion.no⟩
  | 9, _ => exact ⟨T.x_InvalidClaim.xf, T.x_InvalidClaim.isc, T.x_InvalidClaim.no⟩
  | 10, _ => exact ⟨T.x_Endless.xf, T.x_Endless.isc, T.x_Endless.no⟩
  | 11, _ => exact ⟨T.x_Undefined.xf, T.x_Undefined.isc, T.x_Undefined.no⟩
  | 12, _ => exact ⟨T.x_NothingToUndo.xf, T.x_NothingToUndo.isc, T.x_NothingToUndo.no⟩
  | n + 13, h => exact absurd h (by omega)

theorem TX.memb (T : TX P w K mg base c0 c1 c2 c3 c4 c5 c6 c7 c8 c9 c10 c11 c12 G) : ∀ cf, cf ∈ ([(c0, "value"), (c1, "value"), (c2, "value"), (c3, "value"), (c4, "value"), (c5, "value"), (c6, "value"), (c7, "value"), (c8, "value"), (c9, "value"), (c10, "kind"), (c11, "what"), (c12, "word")] : List (Addr × Str)) → XfC K cf.1 ∧ PySem.W.findIn K (.ref cf.1) cf.2 = some none := by
  intro cf h
  simp only [List.mem_cons, List.mem_nil_iff, or_false] at h
  rcases h with rfl | rfl | rfl | rfl | rfl | rfl | rfl | rfl | rfl | rfl | rfl | rfl | rfl
  · exact ⟨T.x_InvalidNumber.xf, T.x_InvalidNumber.no⟩
  · exact ⟨T.x_InvalidRules.xf, T.x_InvalidRules.no⟩
  · exact ⟨T.x_InvalidRule.xf, T.x_InvalidRule.no⟩
  · exact ⟨T.x_InvalidTrees.xf, T.x_InvalidTrees.no⟩
  · exact ⟨T.x_InvalidText.xf, T.x_InvalidText.no⟩
  · exact ⟨T.x_InvalidReading.xf, T.x_InvalidReading.no⟩
  · exact ⟨T.x_InvalidRun.xf, T.x_InvalidRun.no⟩
  · exact ⟨T.x_InvalidPlaces.xf, T.x_InvalidPlaces.no⟩
  · exact ⟨T.x_InvalidQuestion.xf, T.x_InvalidQuestion.no⟩
  · exact ⟨T.x_InvalidClaim.xf, T.x_InvalidClaim.no⟩
  · exact ⟨T.x_Endless.xf, T.x_Endless.no⟩
  · exact ⟨T.x_Undefined.xf, T.x_Undefined.no⟩
  · exact ⟨T.x_NothingToUndo.xf, T.x_NothingToUndo.no⟩
abbrev s_law_ones : Stmt := topS 37
abbrev N_law_ones : List Str := ["v", "found"]
theorem sc_law_ones : FnScope N_law_ones ["v"] (defScope s_law_ones) := ⟨rfl, rfl, rfl, by decide +kernel, rfl, by decide +kernel, by decide +kernel⟩
def spOnes (K : PySem.W.Frag) (c0 c1 c2 c3 c4 c5 c6 c7 c8 c9 : Addr) : Sp := fun vs H Q _ => ∃ (B : Hp) (v : V) (d : PyData), Ex B H ∧ vs = [v] ∧ Dd K B v d ∧ ∀ u B' H', Step (fun _ => False) B H B' H' → LsX K d [(c0, "value"), (c1, "value"), (c2, "value"), (c3, "value"), (c4, "value"), (c5, "value"), (c6, "value"), (c7, "value"), (c8, "value"), (c9, "value")] u B' → Q u H'
theorem ok_ones (F : Fun K "_law_ones" "_law_ones" s_law_ones f fd) (T : TX P w K mg base c0 c1 c2 c3 c4 c5 c6 c7 c8 c9 c10 c11 c12 G) : FnOk P w K mg base CX0 3 f fd ["v"] (spOnes K c0 c1 c2 c3 c4 c5 c6 c7 c8 c9) := by
  refine F.ok sc_law_ones (fun vs H Q E h => ?_) (fun cdv A outer s H vs Q E hr h => ?_)
  · obtain ⟨B, v, d, e, rfl, _⟩ := h
    rfl
  · obtain ⟨B, v, d, e, rfl, hv, q⟩ := h
    refine ⟨_, (pss_cons (ps_set (i := 1) sc_law_ones.nd rfl (Or.inl rfl) (pe_lst (pa_cons (pe_mkE T.x_InvalidNumber (hr.mono (by decide)) rfl (pa_cons (pv 0) pa_nil)) (pa_cons (pe_mkE T.x_InvalidRules (hr.mono (by decide)) rfl (pa_cons (pv 0) pa_nil)) (pa_cons (pe_mkE T.x_InvalidRule (hr.mono (by decide)) rfl (pa_cons (pv 0) pa_nil)) (pa_cons (pe_mkE T.x_InvalidTrees (hr.mono (by decide)) rfl (pa_cons (pv 0) pa_nil)) (pa_cons (pe_mkE T.x_InvalidText (hr.mono (by decide)) rfl (pa_cons (pv 0) pa_nil)) (pa_cons (pe_mkE T.x_InvalidReading (hr.mono (by decide)) rfl (pa_cons (pv 0) pa_nil)) pa_nil))))))))
      (pss_one (ps_ret (pe_op (op_addK K) (pv 1) (pe_lst (pa_cons (pe_mkE T.x_InvalidRun (hr.mono (by decide)) rfl (pa_cons (pv 0) pa_nil)) (pa_cons (pe_mkE T.x_InvalidPlaces (hr.mono (by decide)) rfl (pa_cons (pv 0) pa_nil)) (pa_cons (pe_mkE T.x_InvalidQuestion (hr.mono (by decide)) rfl (pa_cons (pv 0) pa_nil)) (pa_cons (pe_mkE T.x_InvalidClaim (hr.mono (by decide)) rfl (pa_cons (pv 0) pa_nil)) pa_nil))))))))), ?_⟩
    have a : At Fm.pure B H B H := At.start (Ok.any e)
    refine qv_asg (P := LsX K d [(c0, "value"), (c1, "value"), (c2, "value"), (c3, "value"), (c4, "value"), (c5, "value")]) a (ev_lsx (eax_cons (ev_mk (ed_var rfl hv)) (eax_cons (ev_mk (ed_var rfl hv)) (eax_cons (ev_mk (ed_var rfl hv)) (eax_cons (ev_mk (ed_var rfl hv)) (eax_cons (ev_mk (ed_var rfl hv)) (eax_cons (ev_mk (ed_var rfl hv)) (eax_nil)))))))) fun u B1 H1 e1 a1 hu => ?_
    refine sv_ret (P := LsX K d [(c0, "value"), (c1, "value"), (c2, "value"), (c3, "value"), (c4, "value"), (c5, "value"), (c6, "value"), (c7, "value"), (c8, "value"), (c9, "value")]) a1 (ev_op (ev_var rfl upc_lsx hu) (ev_lsx (eax_cons (ev_mk (ed_var rfl (hv.up e1))) (eax_cons (ev_mk (ed_var rfl (hv.up e1))) (eax_cons (ev_mk (ed_var rfl (hv.up e1))) (eax_cons (ev_mk (ed_var rfl (hv.up e1))) (eax_nil)))))) upc_lsx (rv_lsx (Nat.le_of_ble_eq_true rfl))) fun u2 B2 H2 e2 a2 h2 => ?_
    exact q u2 B2 H2 a2.st h2

abbrev s_law_kinds : Stmt := topS 38
abbrev N_law_kinds : List Str := ["e", "found"]
theorem sc_law_kinds : FnScope N_law_kinds ["e"] (defScope s_law_kinds) := ⟨rfl, rfl, rfl, by decide +kernel, rfl, by decide +kernel, by decide +kernel⟩
def kindsOf (i : Nat) : PyData := .list [.bool (i == 0), .bool (i == 1), .bool (i == 2), .bool (i == 3), .bool (i == 4), .bool (i == 5), .bool (i == 6), .bool (i == 7), .bool (i == 8), .bool (i == 9), .bool (i == 10), .bool (i == 11), .bool (i == 12), .bool true, .bool true]
def spKinds (K : PySem.W.Frag) (cs : List (Addr × Str)) : Sp := fun vs H Q _ => ∃ (B : Hp) (v : V) (d : PyData) (i : Nat), Ex B H ∧ vs = [v] ∧ i < 13 ∧ EvX K (cs.getD i ((0 : Addr), ("" : Str))).1 (cs.getD i ((0 : Addr), ("" : Str))).2 d v B ∧ ∀ u B' H', Step (fun _ => False) B H B' H' → Dd K B' u (kindsOf i) → Q u H'
theorem ok_kinds (F : Fun K "_law_kinds" "_law_kinds" s_law_kinds f fd) (T : TX P w K mg base c0 c1 c2 c3 c4 c5 c6 c7 c8 c9 c10 c11 c12 G) : FnOk P w K mg base CX0 1 f fd ["e"] (spKinds K [(c0, "value"), (c1, "value"), (c2, "value"), (c3, "value"), (c4, "value"), (c5, "value"), (c6, "value"), (c7, "value"), (c8, "value"), (c9, "value"), (c10, "kind"), (c11, "what"), (c12, "word")]) := by
  refine F.ok sc_law_kinds (fun vs H Q E h => ?_) (fun cdv A outer s H vs Q E hr h => ?_)
  · obtain ⟨B, v, d, i, e, rfl, _⟩ := h
    rfl
  · obtain ⟨B, v, d, i, e, rfl, hi, hv, q⟩ := h
    refine ⟨_, (pss_cons (ps_set (i := 1) sc_law_kinds.nd rfl (Or.inl rfl) (pe_lst (pa_cons (pe_callB (call_isXK K) (by rfl) T.m_isinstance bt_isinstance (pa_cons (pv 0) (pa_cons (pe_glob (v := .ref _) rfl T.x_InvalidNumber.g rfl) pa_nil))) (pa_cons (pe_callB (call_isXK K) (by rfl) T.m_isinstance bt_isinstance (pa_cons (pv 0) (pa_cons (pe_glob (v := .ref _) rfl T.x_InvalidRules.g rfl) pa_nil))) (pa_cons (pe_callB (call_isXK K) (by rfl) T.m_isinstance bt_isinstance (pa_cons (pv 0) (pa_cons (pe_glob (v := .ref _) rfl T.x_InvalidRule.g rfl) pa_nil))) (pa_cons (pe_callB (call_isXK K) (by rfl) T.m_isinstance bt_isinstance (pa_cons (pv 0) (pa_cons (pe_glob (v := .ref _) rfl T.x_InvalidTrees.g rfl) pa_nil))) pa_nil))))))
      (pss_cons (ps_set (i := 1) sc_law_kinds.nd rfl (Or.inl rfl) (pe_op (op_addK K) (pv 1) (pe_lst (pa_cons (pe_callB (call_isXK K) (by rfl) T.m_isinstance bt_isinstance (pa_cons (pv 0) (pa_cons (pe_glob (v := .ref _) rfl T.x_InvalidText.g rfl) pa_nil))) (pa_cons (pe_callB (call_isXK K) (by rfl) T.m_isinstance bt_isinstance (pa_cons (pv 0) (pa_cons (pe_glob (v := .ref _) rfl T.x_InvalidReading.g rfl) pa_nil))) (pa_cons (pe_callB (call_isXK K) (by rfl) T.m_isinstance bt_isinstance (pa_cons (pv 0) (pa_cons (pe_glob (v := .ref _) rfl T.x_InvalidRun.g rfl) pa_nil))) pa_nil))))))
      (pss_cons (ps_set (i := 1) sc_law_kinds.nd rfl (Or.inl rfl) (pe_op (op_addK K) (pv 1) (pe_lst (pa_cons (pe_callB (call_isXK K) (by rfl) T.m_isinstance bt_isinstance (pa_cons (pv 0) (pa_cons (pe_glob (v := .ref _) rfl T.x_InvalidPlaces.g rfl) pa_nil))) (pa_cons (pe_callB (call_isXK K) (by rfl) T.m_isinstance bt_isinstance (pa_cons (pv 0) (pa_cons (pe_glob (v := .ref _) rfl T.x_InvalidQuestion.g rfl) pa_nil))) (pa_cons (pe_callB (call_isXK K) (by rfl) T.m_isinstance bt_isinstance (pa_cons (pv 0) (pa_cons (pe_glob (v := .ref _) rfl T.x_InvalidClaim.g rfl) pa_nil))) pa_nil))))))
      (pss_cons (ps_set (i := 1) sc_law_kinds.nd rfl (Or.inl rfl) (pe_op (op_addK K) (pv 1) (pe_lst (pa_cons (pe_callB (call_isXK K) (by rfl) T.m_isinstance bt_isinstance (pa_cons (pv 0) (pa_cons (pe_glob (v := .ref _) rfl T.x_Endless.g rfl) pa_nil))) (pa_cons (pe_callB (call_isXK K) (by rfl) T.m_isinstance bt_isinstance (pa_cons (pv 0) (pa_cons (pe_glob (v := .ref _) rfl T.x_Undefined.g rfl) pa_nil))) (pa_cons (pe_callB (call_isXK K) (by rfl) T.m_isinstance bt_isinstance (pa_cons (pv 0) (pa_cons (pe_glob (v := .ref _) rfl T.x_NothingToUndo.g rfl) pa_nil))) pa_nil))))))
      (pss_one (ps_ret (pe_op (op_addK K) (pv 1) (pe_lst (pa_cons (pe_callB (call_isXK K) (by rfl) T.m_isinstance bt_isinstance (pa_cons (pv 0) (pa_cons (pe_glob (v := .ref _) rfl T.g_GraftError rfl) pa_nil))) (pa_cons (pe_callB (call_isXK K) (by rfl) T.m_isinstance bt_isinstance (pa_cons (pv 0) (pa_cons (pe_bltn (v := .ty "ValueError") (by rfl) T.m_ValueError bt_ValueError rfl) pa_nil))) pa_nil)))))))))), ?_⟩
    have a : At Fm.pure B H B H := At.start (Ok.any e)
    have hcs : ∀ n, (([(c0, "value"), (c1, "value"), (c2, "value"), (c3, "value"), (c4, "value"), (c5, "value"), (c6, "value"), (c7, "value"), (c8, "value"), (c9, "value"), (c10, "kind"), (c11, "what"), (c12, "word")] : List (Addr × Str)).getD n ((0 : Addr), ("" : Str))).1 = [c0, c1, c2, c3, c4, c5, c6, c7, c8, c9, c10, c11, c12].getD n 0 := fun n => by
      match n with
      | 0 => rfl
      | 1 => rfl
      | 2 => rfl
      | 3 => rfl
      | 4 => rfl
      | 5 => rfl
      | 6 => rfl
      | 7 => rfl
      | 8 => rfl
      | 9 => rfl
      | 10 => rfl
      | 11 => rfl
      | 12 => rfl
      | n + 13 => rfl
    obtain ⟨xf, isc, no⟩ := T.all i hi
    rw [hcs] at hv
    have it : ∀ (σ : L2.St) B1, Ex B B1 → σ[0]? = some (some v) → ∀ j, j < 13 → ED Fm.pure K (tCB (rIsX K) (tCons (tVar 0) (tCons (tC (.ref ([c0, c1, c2, c3, c4, c5, c6, c7, c8, c9, c10, c11, c12].getD j 0))) tNil))) σ B1 (.bool (i == j)) := fun σ B1 e1 hσ j hj =>
      ev_isx xf isc (ClsV.own _) (kitTab_get T.kt hi hj) (ev_var hσ upc_evx (upc_evx _ _ _ e1 hv))
    have itG : ∀ (σ : L2.St) B1, Ex B B1 → σ[0]? = some (some v) → ED Fm.pure K (tCB (rIsX K) (tCons (tVar 0) (tCons (tC (.ref G)) tNil))) σ B1 (.bool true) := fun σ B1 e1 hσ =>
      ev_isx xf isc (ClsV.own _) (kitTab_top T.kt hi).1 (ev_var hσ upc_evx (upc_evx _ _ _ e1 hv))
    have itV : ∀ (σ : L2.St) B1, Ex B B1 → σ[0]? = some (some v) → ED Fm.pure K (tCB (rIsX K) (tCons (tVar 0) (tCons (tC (.ty "ValueError")) tNil))) σ B1 (.bool true) := fun σ B1 e1 hσ =>
      ev_isx xf isc (ClsV.ty _) (kitTab_top T.kt hi).2 (ev_var hσ upc_evx (upc_evx _ _ _ e1 hv))
    refine qv_asg (P := DD K (.list [.bool (i == 0), .bool (i == 1), .bool (i == 2), .bool (i == 3)])) a (ed_lst (eds_cons (it _ _ (Ex.refl B) rfl 0 (by decide)) (eds_cons (it _ _ (Ex.refl B) rfl 1 (by decide)) (eds_cons (it _ _ (Ex.refl B) rfl 2 (by decide)) (eds_cons (it _ _ (Ex.refl B) rfl 3 (by decide)) (eds_nil)))))) fun u1 B1 H1 e1 a1 h1 => ?_
    refine qv_asg (P := DD K (.list [.bool (i == 0), .bool (i == 1), .bool (i == 2), .bool (i == 3), .bool (i == 4), .bool (i == 5), .bool (i == 6)])) a1 (ed_op (ed_var rfl h1) (ed_lst (eds_cons (it _ _ e1 rfl 4 (by decide)) (eds_cons (it _ _ e1 rfl 5 (by decide)) (eds_cons (it _ _ e1 rfl 6 (by decide)) (eds_nil))))) (rd_addL (by exact Nat.le_of_ble_eq_true rfl))) fun u2 B2 H2 e2 a2 h2 => ?_
    refine qv_asg (P := DD K (.list [.bool (i == 0), .bool (i == 1), .bool (i == 2), .bool (i == 3), .bool (i == 4), .bool (i == 5), .bool (i == 6), .bool (i == 7), .bool (i == 8), .bool (i == 9)])) a2 (ed_op (ed_var rfl h2) (ed_lst (eds_cons (it _ _ (e1.trans e2) rfl 7 (by decide)) (eds_cons (it _ _ (e1.trans e2) rfl 8 (by decide)) (eds_cons (it _ _ (e1.trans e2) rfl 9 (by decide)) (eds_nil))))) (rd_addL (by exact Nat.le_of_ble_eq_true rfl))) fun u3 B3 H3 e3 a3 h3 => ?_
    refine qv_asg (P := DD K (.list [.bool (i == 0), .bool (i == 1), .bool (i == 2), .bool (i == 3), .bool (i == 4), .bool (i == 5), .bool (i == 6), .bool (i == 7), .bool (i == 8), .bool (i == 9), .bool (i == 10), .bool (i == 11), .bool (i == 12)])) a3 (ed_op (ed_var rfl h3) (ed_lst (eds_cons (it _ _ ((e1.trans e2).trans e3) rfl 10 (by decide)) (eds_cons (it _ _ ((e1.trans e2).trans e3) rfl 11 (by decide)) (eds_cons (it _ _ ((e1.trans e2).trans e3) rfl 12 (by decide)) (eds_nil))))) (rd_addL (by exact Nat.le_of_ble_eq_true rfl))) fun u4 B4 H4 e4 a4 h4 => ?_
    refine sv_ret (P := DD K (kindsOf i)) a4 (ed_op (ed_var rfl h4) (ed_lst (eds_cons (itG _ _ (((e1.trans e2).trans e3).trans e4) rfl) (eds_cons (itV _ _ (((e1.trans e2).trans e3).trans e4) rfl) eds_nil))) (rd_addL (by exact Nat.le_of_ble_eq_true rfl))) fun u5 B5 H5 e5 a5 h5 => ?_
    exact q u5 B5 H5 a5.st h5

end
end K01

namespace K01
open PySem PySem.Spec PyProof.Rows L2 Evl Ex Dx
section
variable {P : Program} {w : World} {K : PySem.W.Frag} {mg : Str → Option Value} {base : Heap} {f : Addr} {fd : FuncData} {c0 c1 c2 c3 c4 c5 c6 c7 c8 c9 c10 c11 c12 G : Addr}
/-! ### Pairs(0, ..) -/
/-- Pairs(0, v): InvalidNumber(0) -/
def spP0 (C : Addr) : Sp := fun vs H _ E => ∃ (x : Addr) (v : V), vs = [.ref x, .int 0, v] ∧ ∀ dd H', H dd = none → Ex H H' → H' dd = some (.xd [("value", .int 0)]) → E (.ref C) (some dd) H'

abbrev s_Pairs_init : Stmt := inClass (topS 29) 0
abbrev N_Pairs_init : List Str := ["self", "kinds", "rules", "endless", "rule"]
theorem sc_Pairs_init : FnScope N_Pairs_init ["self", "kinds", "rules"] (defScope s_Pairs_init) := ⟨rfl, rfl, rfl, by decide +kernel, rfl, by decide +kernel, by decide +kernel⟩
theorem ok_pairs (F : Fun K "__init__" "Pairs.__init__" s_Pairs_init f fd) (T : TX P w K mg base c0 c1 c2 c3 c4 c5 c6 c7 c8 c9 c10 c11 c12 G) (C_is_between : Callee P w K mg base "is_between" 2 ["value", "low", "high"] (spBetween K)) : FnOk P w K mg base (L2.CX P w) 3 f fd ["self", "kinds", "rules"] (spP0 c0) := by
  refine F.okX sc_Pairs_init (fun vs H Q E h => ?_) (fun cdv A outer s H vs Q E hr h => ?_)
  · obtain ⟨x, v, rfl, _⟩ := h
    rfl
  · obtain ⟨x, v, rfl, q⟩ := h
    refine ⟨_, pss_cons (ps_if (pt_not (pt_val (pe_callC C_is_between hr rfl pass0 (pa_cons (pv 1) (pa_cons pe_int (pa_cons (pe_gint rfl T.c_MOST_KINDS) pa_nil)))))) (pss_one (ps_raise rfl (takes_of rfl rfl rfl rfl) (pmk_E T.x_InvalidNumber (hr.mono (by decide)) rfl (pa_cons (pv 1) pa_nil)))) pss_nil) pss_never, ?_⟩
    have a : At Fm.pure H H H H := At.start (Ok.any (Ex.refl H))
    refine qv_when (b := !false) a (et_not (et_val (ed_F (z := .bool false) (eds_cons (ed_var rfl (.int 0)) (eds_cons ed_int (eds_cons ed_int eds_nil))) ⟨_, _, _, rfl⟩ rfl))) (fun _ B1 H1 e1 a1 => ?_) (fun h => nomatch h)
    exact mk_raise (P := DD K (.int 0)) a1.j (ed_var rfl (.int 0)) fun v B2 H2 dd H' s2 k2 hv hd e2 hx => by
      obtain rfl := dd_int hv
      have eH : Ex H H2 := fun b o h => s2.keep b o (fun z => z) (a1.st.ex b o h)
      exact q dd H' (fresh_back eH hd) (eH.trans e2) hx

abbrev s_law : Stmt := topS 39
abbrev N_law : List Str := ["script", "box", "some", "v", "errors", "one", "back", "what", "word", "k", "e", "j"]
theorem sc_law : FnScope N_law ["script"] (defScope s_law) := ⟨rfl, rfl, rfl, by decide +kernel, rfl, by decide +kernel, by decide +kernel⟩
def spLaw (K : PySem.W.Frag) : Sp := fun vs H Q _ => ∃ (a : Addr) (ns : List Int), vs = [.ref a] ∧ SqL K H a (ns.map V.int) ∧ ns.length ≤ 63 ∧ ∀ H', Q (.bl true) H'
def ShL (K : PySem.W.Frag) (n : Nat) : PV := fun v B => ∃ ds, Dd K B v (.list ds) ∧ ds.length = n ∧ ∀ d ∈ ds, SeqAt.shaped d = true
section
variable {Fr : Fm} {σ : L2.St} {B : Hp} {te : TE} {tas : TA} {n m : Nat}
theorem upc_sh : Upc (Sh K) := fun v B B' e ⟨d, h, s⟩ => ⟨d, h.up e, s⟩
theorem upc_shl : Upc (ShL K n) := fun v B B' e ⟨d, h, s⟩ => ⟨d, h.up e, s⟩
def ShA (K : PySem.W.Frag) (n : Nat) : List V → Hp → Prop := fun vs B => ∃ ds, DdAll K B vs ds ∧ ds.length = n ∧ ∀ d ∈ ds, SeqAt.shaped d = true
theorem sha_nil : EVs Fr tNil σ B (ShA K 0) := fun B1 e0 H j Q q => q [] B1 H (Step.refl j.e) j ⟨[], .nil, rfl, fun _ h => nomatch h⟩
theorem sha_cons (h : EV Fr te σ B (Sh K)) (hs : EVs Fr tas σ B (ShA K n)) : EVs Fr (tCons te tas) σ B (ShA K (n + 1)) := fun B1 e0 H j Q q =>
  h B1 e0 H j _ fun v B2 H2 s2 j2 ⟨d, hd, sd⟩ => hs B2 (e0.trans s2.bb) H2 j2 _ fun us B3 H3 s3 j3 ⟨ds, h3, l3, a3⟩ => q (v :: us) B3 H3 (s2.trans s3) j3 ⟨d :: ds, .cons (hd.up s3.bb) h3, by rw [List.length_cons, l3], fun x hx => by
    rcases List.mem_cons.mp hx with rfl | hx
    · exact sd
    · exact a3 x hx⟩
theorem ev_shl (h : EVs Fr tas σ B (ShA K n)) (hn : n ≤ 16777216) : EV Fr (tLst tas) σ B (ShL K n) :=
  h.newL (fun vs B1 _ ⟨ds, h1, l1, _⟩ => by rw [h1.len, l1, sizeLine_eq]; exact hn) fun vs p B1 _ ⟨ds, h1, l1, a1⟩ hp => ⟨ds, .lst upd_same (by rw [h1.len, l1, sizeLine_eq]; exact hn) (h1.up (Ex.new hp)), l1, a1⟩
theorem rv_shl (hn : n + m ≤ 16777216) : RV2 Fr (rAddA K) B (ShL K n) (ShL K m) (ShL K (n + m)) := fun B1 e0 H u v jj ⟨ds, h1, l1, a1⟩ ⟨es, h2, l2, a2⟩ Q q =>
  rd_addL (F := Fr) (K := K) (B := B1) (by rw [l1, l2]; exact hn) B1 (Ex.refl B1) H u v jj h1 h2 Q fun w B2 H2 s2 j2 g => q w B2 H2 s2 j2 ⟨ds ++ es, g, by rw [List.length_append, l1, l2], fun d hd => by
    rcases List.mem_append.mp hd with h | h
    · exact a1 d h
    · exact a2 d h⟩
end
theorem sh_int (i : Int) : SeqAt.shaped (.int i) = true := rfl
theorem sh_one (i : Int) : SeqAt.shaped (.list [.int i]) = true := by simp [SeqAt.shaped, PyData.canLay0, PyData.canLayAll0, PyData.depth, PyData.depthAll]
theorem sh_two (i j : Int) : SeqAt.shaped (.tuple [.int i, .int j]) = true := by simp [SeqAt.shaped, PyData.canLay0, PyData.canLayAll0, PyData.depth, PyData.depthAll]
theorem kinds_is : ∀ k : Fin 13, PyData.eqv (kindsOf k) (.list (((List.range 15).filter fun _ => true).map fun j => .bool (PyData.eqv (.int (j : Nat)) (.int ((k : Nat) : Int)) || decide ((13 : Int) ≤ (j : Nat))))) = true ∧ SeqAt.shaped (kindsOf k) = true ∧
  SeqAt.shaped (.list (((List.range 15).filter fun _ => true).map fun j => .bool (PyData.eqv (.int (j : Nat)) (.int ((k : Nat) : Int)) || decide ((13 : Int) ≤ (j : Nat))))) = true := by decide +kernel
theorem ok_law {fI CP : Addr} {fdI : FuncData} (F : Fun K "law" "law" s_law f fd) (T : TX P w K mg base c0 c1 c2 c3 c4 c5 c6 c7 c8 c9 c10 c11 c12 G)
    (C_law_box : Callee P w K mg base "_law_box" 1 ["script", "k"] (spBox K)) (C_law_take : Callee P w K mg base "_law_take" 1 ["box", "many"] (spTake K)) (C_law_pick : Callee P w K mg base "_law_pick" 2 ["box", "some"] (spPick K))
    (C_law_ones : Callee P w K mg base "_law_ones" 3 ["v"] (spOnes K c0 c1 c2 c3 c4 c5 c6 c7 c8 c9)) (C_law_kinds : Callee P w K mg base "_law_kinds" 1 ["e"] (spKinds K [(c0, "value"), (c1, "value"), (c2, "value"), (c3, "value"), (c4, "value"), (c5, "value"), (c6, "value"), (c7, "value"), (c8, "value"), (c9, "value"), (c10, "kind"), (c11, "what"), (c12, "word")]))
    (M_Pairs : Mk K CP fI) (gP : mg "Pairs" = some (.ref CP)) (G_Pairs : FnOk P w K mg base (L2.CX P w) 3 fI fdI ["self", "kinds", "rules"] (spP0 c0)) (B_Pairs : L2.Binds K fdI ["self", "kinds", "rules"] []) (exG : PySem.W.exmOne K (.ref c0) (.ref G) = some true) :
    FnOk P w K mg base CX0 5 f fd ["script"] (spLaw K) := by
  refine F.ok sc_law (fun vs H Q E h => ?_) (fun cdv A outer s H vs Q E hr h => ?_)
  · obtain ⟨a, ns, rfl, _⟩ := h
    rfl
  · obtain ⟨a, ns, rfl, hS, hl, q⟩ := h
    have hu64 : (A.deeper (envOfC "law" (defScope s_law) s.heap.objs.size f cdv)).units + 64 < cLine := hr.units
    refine ⟨_, (pss_cons (ps_set (i := 1) sc_law.nd rfl (Or.inl rfl) (pe_callC C_law_box (hr.mono (by decide)) rfl pass0 (pa_cons (pv 0) (pa_cons pe_int pa_nil))))
      (pss_cons (ps_set (i := 2) sc_law.nd rfl (Or.inl rfl) (pe_lst (pa_cons (pe_op op_sub (pe_callC C_law_take (hr.mono (by decide)) rfl pass0 (pa_cons (pv 1) (pa_cons (pe_op op_pow pe_int pe_int) pa_nil))) pe_int) (pa_cons (pe_op (op_addK K) pe_str (pe_callTy call_str_int (by rfl) T.m_str bt_str (pa_cons (pe_callC C_law_take (hr.mono (by decide)) rfl pass0 (pa_cons (pv 1) (pa_cons pe_int pa_nil))) pa_nil))) (pa_cons (pe_tup (pa_cons pe_int (pa_cons (pe_callC C_law_take (hr.mono (by decide)) rfl pass0 (pa_cons (pv 1) (pa_cons pe_int pa_nil))) pa_nil))) pa_nil)))))
      (pss_cons (ps_set (i := 2) sc_law.nd rfl (Or.inl rfl) (pe_op (op_addK K) (pv 2) (pe_lst (pa_cons (pe_lst (pa_cons (pe_callC C_law_take (hr.mono (by decide)) rfl pass0 (pa_cons (pv 1) (pa_cons pe_int pa_nil))) pa_nil)) (pa_cons pe_non (pa_cons pe_bl (pa_cons (pe_tup pa_nil) pa_nil)))))))
      (pss_cons (ps_set (i := 3) sc_law.nd rfl (Or.inl rfl) (pe_callC C_law_pick (hr.mono (by decide)) rfl pass0 (pa_cons (pv 1) (pa_cons (pv 2) pa_nil))))
      (pss_cons (ps_set (i := 4) sc_law.nd rfl (Or.inr rfl) (pe_callC C_law_ones (hr.mono (by decide)) rfl pass0 (pa_cons (pv 3) pa_nil)))
      (pss_cons (ps_for PassesOwn.never rfl (pi_seqK K (pv 4)) (pg_name (i := 5) sc_law.nd rfl (Or.inl rfl)) (pss_one (ps_if (pt_cmpR (op_neDK K hu64) (pe_oxfK K (pv 5)) (pv 3) (nomark _)) (pss_one (ps_ret pe_bl)) pss_nil)))
      (pss_cons (ps_par3 (i := 6) (j := 7) (l := 8) (by rfl) sc_law.nd rfl rfl rfl (by decide) (by decide) (by decide) rfl rfl rfl (pa_cons (pe_mkE T.x_Endless (hr.mono (by decide)) rfl (pa_cons (pv 3) pa_nil)) (pa_cons (pe_mkE T.x_Undefined (hr.mono (by decide)) rfl (pa_cons (pv 3) pa_nil)) (pa_cons (pe_mkE T.x_NothingToUndo (hr.mono (by decide)) rfl (pa_cons (pv 3) pa_nil)) pa_nil))) (by rfl))
      (pss_cons (ps_if (PW.pt (pw_or (pt_cmpR (op_neDK K hu64) (pe_oxfK K (pv 6)) (pv 3) (nomark _)) (pw_or (pt_cmpR (op_neDK K hu64) (pe_oxfK K (pv 7)) (pv 3) (nomark _)) (pw_or1 (pt_cmpR (op_neDK K hu64) (pe_oxfK K (pv 8)) (pv 3) (nomark _)))))) (pss_one (ps_ret pe_bl)) pss_nil)
      (pss_cons (ps_set (i := 4) sc_law.nd rfl (Or.inr rfl) (pe_op (op_addK K) (pv 4) (pe_lst (pa_cons (pv 6) (pa_cons (pv 7) (pa_cons (pv 8) pa_nil))))))
      (pss_cons (ps_for PassesOwn.never rfl (pi_range1 rfl T.m_range (pa_cons (pe_callB (call_lenK K) (by rfl) T.m_len bt_len (pa_cons (pv 4) pa_nil)) pa_nil)) (pg_name (i := 9) sc_law.nd rfl (Or.inr rfl)) (pss_one (ps_if (pt_cmpR (op_neDK K hu64) (pe_callC C_law_kinds (hr.mono (by decide)) rfl pass0 (pa_cons (pe_ix (ix_seqK K) (pv 4) (pv 9) (fun _ _ => rfl)) pa_nil)) (pe_lc (own := [("j", 11)]) rfl sc_law.nd (pi_range1 rfl T.m_range (pa_cons (pe_op (op_addK K) (pe_callB (call_lenK K) (by rfl) T.m_len bt_len (pa_cons (pv 4) pa_nil)) pe_int) pa_nil)) (blkOk_by (own := [("j", 11)]) (N := N_law) (sc := defScope s_law) (by decide +kernel)) (fun _ _ _ _ _ => pg_name (i := 11) sc_law.nd rfl (Or.inl rfl)) (fun _ _ _ _ _ => pts_nil) (fun _ _ _ _ _ => (pe_or (pe_cmpR (op_eqDK K hu64) (pv 11) (pv 9) (nomark _)) (pe_one (pe_cmpR op_ge (pv 11) (pe_callB (call_lenK K) (by rfl) T.m_len bt_len (pa_cons (pv 4) pa_nil)) (nomark _)))))) (nomark _)) (pss_one (ps_ret pe_bl)) pss_nil)))
      (pss_one (ps_try_as (i := 10) (c := .ref G) (Wout := fun _ _ _ _ => False) rfl rfl sc_law.nd rfl rfl ⟨rfl, by decide, Or.inl T.g_GraftError⟩ takes0 (fun W pn xe tk _ => (pss_cons (ps_expr (pe_makeS M_Pairs G_Pairs (hr.mono (by decide)) rfl gP B_Pairs (fun σ => passAt tk σ) (pa_cons pe_int (pa_cons (pe_tup pa_nil) pa_nil)))) (pss_one (ps_ret pe_bl)))) (fun a oe cls d pn hz hf => (pss_one (ps_ret (pe_and (pe_callB (call_isSd hz hf) (by rfl) T.m_isinstance bt_isinstance (pa_cons (pv 10) (pa_cons (pe_glob (v := .ref _) rfl T.x_InvalidNumber.g rfl) pa_nil))) (pe_one (pe_cmpR op_eq (pe_xf T.x_InvalidNumber.xf T.x_InvalidNumber.no hz hf (pv 10)) pe_int (nomark _))))))))))))))))))), ?_⟩
    refine qv_box (Ex.refl H) rfl hS hl (by decide) (by decide) fun p B1 H1 s1 k1 => ?_
    have a1 : At (Fm.box p) B1 H1 B1 H1 := At.start k1
    have upN : ∀ m : Int, Upc (fun v _ => ∃ n : Int, v = V.int n ∧ 0 ≤ n ∧ n < m) := fun _ _ _ _ _ h => h
    have dr : ∀ (σ : L2.St) B2 (m : Int), σ[1]? = some (some (V.ref p)) → 0 < m → m < 1073741824 → EV (Fm.box p) (tCall (spTake K) [] E0 (tCons (tVar 1) (tCons (tC (.int m)) tNil))) σ B2 (fun v _ => ∃ n : Int, v = .int n ∧ 0 ≤ n ∧ n < m) := fun σ B2 m hσ h0 h1 => ev_take hσ ed_int h0 h1
    refine qv_asg (P := ShL K 3) a1 (ev_shl (sha_cons ?_ (sha_cons ?_ (sha_cons ?_ sha_nil))) (by decide)) fun v1 B2 H2 e2 a2 h2 => ?_
    · refine ev_op (P' := DD K (.int 500000)) (ev_take (m := 10 ^ (6 : Int).toNat) rfl (ed_op ed_int ed_int (rd_pow ⟨by decide, by decide, by decide⟩)) (by decide) (by decide)) ed_int (upN _) ?_
      intro B6 _ H6 u v j6 ⟨n, hu, _⟩ hv Q q
      exact ⟨n, 500000, hu, dd_int hv, q _ B6 H6 (Step.refl j6.e) j6 ⟨.int (n - 500000), .int _, rfl⟩⟩
    · refine ev_op (P := DD K (.str "text ")) (P' := fun v _ => ∃ n : Fin 99, v = .str (toString ((n : Nat) : Int))) ed_str (ev_cb (evs_one (dr _ _ 99 rfl (by decide) (by decide))) ?_) upc_dd ?_
      · intro B6 _ H6 us j6 ⟨v, eu, n, hv, h0, h1⟩ Q q
        have en : n = ((n.toNat : Nat) : Int) := by omega
        refine ⟨n, by rw [eu, hv], Nat.lt_of_le_of_lt (Nat.log2_le_self _) (by omega), q _ B6 H6 (Step.refl j6.e) j6 ⟨⟨n.toNat, by omega⟩, ?_⟩⟩
        show V.str (toString n) = V.str (toString ((n.toNat : Nat) : Int))
        rw [← en]
      · intro B6 _ H6 u v j6 hu ⟨n, hv⟩ Q q
        obtain ⟨⟨l1, l2⟩, sh⟩ := text_ok n
        obtain ⟨rfl, _⟩ := dd_str hu
        rw [str_app_len] at l1
        refine .inr (.inl ⟨_, _, rfl, hv, Nat.le_trans l1 (by decide), q _ B6 H6 (Step.refl j6.e) j6 ⟨_, .str _ ?_, sh⟩⟩)
        rw [str_app_len]
        exact Nat.le_trans l1 (by decide)
    · intro B5 e5 H5 j5 Q q
      exact dr _ B5 9 rfl (by decide) (by decide) B5 (Ex.refl B5) H5 j5 _ fun v B6 H6 s6 j6 ⟨n, hv, _⟩ => ⟨by show 2 ≤ sizeLine; decide, fun p' hp' => q (.ref p') _ _ (s6.trans (Step.alloc j6.e hp')) (j6.alloc hp') ⟨.tuple [.int 1, .int n], .tup (st_of upd_same) (by show 2 ≤ sizeLine; decide) (.cons (.int 1) (.cons (by rw [hv]; exact .int n) .nil)), sh_two 1 n⟩⟩
    refine qv_asg (P := ShL K 7) a2 (ev_op (ev_var rfl upc_shl h2) (ev_shl (n := 4) (sha_cons ?_ (sha_cons (sh_of ed_non rfl) (sha_cons (sh_of ed_bl rfl) (sha_cons (sh_of (ed_tup eds_nil) rfl) sha_nil)))) (by decide)) upc_shl (rv_shl (by decide))) fun v2 B3 H3 e3 a3 ⟨ds, h3, l3, s3⟩ => ?_
    · intro B5 e5 H5 j5 Q q
      exact dr _ B5 9 rfl (by decide) (by decide) B5 (Ex.refl B5) H5 j5 _ fun v B6 H6 s6 j6 ⟨n, hv, _⟩ => ⟨by show 1 ≤ sizeLine; decide, fun p' hp' => q (.ref p') _ _ (s6.trans (Step.alloc j6.e hp')) (j6.alloc hp') ⟨.list [.int n], .lst upd_same (by show 1 ≤ sizeLine; decide) (.cons (by rw [hv]; exact .int n) .nil), sh_one n⟩⟩
    refine qv_asg (P := Sh K) a3 ((ev_pick (d := .list ds) rfl (ed_var rfl h3) (.inl rfl) (fun z => by rw [z] at l3; cases l3) (by rw [l3]; decide)).imp fun v B1 _ ⟨e, he, hv⟩ => ⟨e, hv, s3 e he⟩) fun v3 B4 H4 e4 a4 ⟨d, hv, sd⟩ => ?_
    have eqd : PyData.eqv d d = true := eqv_refl d (shaped_lay sd)
    refine qv_asg (P := LsX K d [(c0, "value"), (c1, "value"), (c2, "value"), (c3, "value"), (c4, "value"), (c5, "value"), (c6, "value"), (c7, "value"), (c8, "value"), (c9, "value")]) a4 ?_ fun v4 B5 H5 e5 a5 h5 => ?_
    · intro B6 e6 H6 j6 Q q
      exact ⟨v3, rfl, B6, v3, d, j6.e, rfl, hv.up e6, fun u B' H' s g => q u B' H' s.pure (j6.pure s) g⟩
    have ox : ∀ (σ : L2.St) (i : Nat) (c : Addr) (f : Str) (u : V) B6, (c, f) ∈ ([(c0, "value"), (c1, "value"), (c2, "value"), (c3, "value"), (c4, "value"), (c5, "value"), (c6, "value"), (c7, "value"), (c8, "value"), (c9, "value"), (c10, "kind"), (c11, "what"), (c12, "word")] : List (Addr × Str)) → σ[i]? = some (some u) → EvX K c f d u B6 → σ[3]? = some (some v3) → Ex B5 B6 → ETt (Fm.box p) (tTest (tOp (rNeD K) (tOxf K f (tVar i)) (tVar 3))) σ B6 false := fun σ i c f u B6 hm hi hx h3 e6 => by
      obtain ⟨xf, no⟩ := T.memb (c, f) hm
      exact et_is (et_cmp (ed_op (ev_oxf xf no (ev_var hi upc_evx hx)) (ed_var h3 (hv.up (e5.trans e6))) (rd_neD sd sd))) (by rw [eqd]; rfl)
    refine qv_for a5 ((ev_var rfl upc_lsx h5).imp fun v B1 _ h => sqv_lsx h) 10 (fun vs B1 h => AX.len h) (fun vs B1 B2 e h => AX.up e h) (fun i σ' B' => ∃ o, σ' = [some (.ref a), some (.ref p), some v2, some v3, some v4, o, none, none, none, none, none, none]) (fun B6 _ => ⟨none, rfl⟩) ?_ ?_
    · rintro Bb i v vs σ' B6 H6 eb hx ps e6 a6 ⟨o, rfl⟩
      obtain ⟨c, f, hc, hv'⟩ := AX.get ps hx
      have hf : f = "value" := by
        have hm : (c, f) ∈ ([(c0, "value"), (c1, "value"), (c2, "value"), (c3, "value"), (c4, "value"), (c5, "value"), (c6, "value"), (c7, "value"), (c8, "value"), (c9, "value")] : List (Addr × Str)) := List.mem_of_getElem? hc
        simp only [List.mem_cons, List.mem_nil_iff, or_false, Prod.mk.injEq] at hm
        rcases hm with h | h | h | h | h | h | h | h | h | h <;> exact h.2
      subst hf
      refine sv_if a6 (ox _ 5 c "value" v B6 (List.mem_append_left (as := ([(c0, "value"), (c1, "value"), (c2, "value"), (c3, "value"), (c4, "value"), (c5, "value"), (c6, "value"), (c7, "value"), (c8, "value"), (c9, "value")] : List (Addr × Str))) ([(c10, "kind"), (c11, "what"), (c12, "word")] : List (Addr × Str)) (List.mem_of_getElem? hc)) rfl hv' rfl (eb.trans e6)) (fun z => nomatch z) (fun _ B7 H7 e7 a7 => ?_)
      exact ⟨B7, e6.trans e7, a7, some v, rfl⟩
    rintro σ' B6 H6 e6 a6 ⟨o, rfl⟩
    refine qv_par3X a6 (eax_cons (ev_mk (ed_var rfl (hv.up (e5.trans e6)))) (eax_cons (ev_mk (ed_var rfl (hv.up (e5.trans e6)))) (eax_cons (ev_mk (ed_var rfl (hv.up (e5.trans e6)))) eax_nil))) fun u1 u2 u3 B7 H7 e7 a7 g1 g2 g3 => ?_
    refine qv_when (b := false) a7 (PW_or3 (ox _ 6 c10 "kind" u1 B7 (by simp) rfl g1 rfl (e6.trans e7)) (ox _ 7 c11 "what" u2 B7 (by simp) rfl g2 rfl (e6.trans e7)) (ox _ 8 c12 "word" u3 B7 (by simp) rfl g3 rfl (e6.trans e7))) (fun z => nomatch z) (fun _ B8 H8 e8 a8 => ?_)
    refine qv_asg (P := LsX K d [(c0, "value"), (c1, "value"), (c2, "value"), (c3, "value"), (c4, "value"), (c5, "value"), (c6, "value"), (c7, "value"), (c8, "value"), (c9, "value"), (c10, "kind"), (c11, "what"), (c12, "word")]) a8 (ev_op (ev_var rfl upc_lsx (upc_lsx _ _ _ ((e6.trans e7).trans e8) h5)) (ev_lsx (eax_cons (ev_var rfl upc_evx (upc_evx _ _ _ e8 g1)) (eax_cons (ev_var rfl upc_evx (upc_evx _ _ _ e8 g2)) (eax_cons (ev_var rfl upc_evx (upc_evx _ _ _ e8 g3)) eax_nil)))) upc_lsx (rv_lsx (Nat.le_of_ble_eq_true rfl))) fun v5 B9 H9 e9 a9 h9 => ?_
    have len13 : ∀ (σ : L2.St) B10, σ[4]? = some (some v5) → Ex B9 B10 → ED (Fm.box p) K (tCB (rLnK K) (tCons (tVar 4) tNil)) σ B10 (.int 13) := fun σ B10 hσ e10 => ev_cb (evs_one (ev_var hσ upc_lsx (upc_lsx _ _ _ e10 h9))) rc_lenX
    refine qd_forR (K := K) (n := 13) a9 (eds_cons (len13 _ _ rfl (Ex.refl B9)) eds_nil) ⟨by decide, by decide⟩ (fun i σ' B' => ∃ o, σ' = [some (.ref a), some (.ref p), some v2, some v3, some v5, o.1, some u1, some u2, some u3, o.2, none, none]) (fun B10 _ => ⟨(o, none), rfl⟩) ?_ ?_
    · rintro Bb i σ' B10 H10 eb hi e10 a10 ⟨o', rfl⟩
      have hi' : i < 13 := by omega
      obtain ⟨q1, q2, q3⟩ := kinds_is ⟨i, hi'⟩
      refine sv_if (b := false) a10 (et_is (et_cmp (ed_op (K := K) (x := kindsOf i) (y := .list (((List.range 15).filter fun _ => true).map fun j => .bool (PyData.eqv (.int (j : Nat)) (.int ((i : Nat) : Int)) || decide ((13 : Int) ≤ (j : Nat))))) ?_ (ed_lcR (n := 15) (fun _ => true) _ (eds_cons (ed_op (len13 _ _ rfl (eb.trans e10)) ed_int rd_add) eds_nil) ⟨by decide, by decide⟩ (fun _ => rfl) (fun j B11 _ _ => et_yes) (fun j B11 _ _ e11 => ed_orV (ed_op (ed_var rfl (.int _)) (ed_var rfl (.int _)) (rd_eqD rfl rfl)) (fun _ => ed_op (ed_var rfl (.int _)) (len13 _ _ rfl ((eb.trans e10).trans e11)) rd_ge))) (rd_neD q2 q3))) (by rw [q1]; rfl)) (fun z => nomatch z) (fun _ B11 H11 e11 a11 => ?_)
      · intro B11 e11 H11 j11 Q q
        exact (ev_op (ev_var rfl upc_lsx (upc_lsx _ _ _ ((eb.trans e10).trans e11) h9)) (ed_var (d := .int (i : Nat)) rfl (.int _)) upc_lsx (rv_ixX ⟨by omega, by show (i : Int) < ((13 : Nat) : Int); omega⟩)) B11 (Ex.refl B11) H11 j11 _ fun v B12 H12 s12 j12 ⟨c, f, hc, hv'⟩ =>
          ⟨B12, v, d, i, j12.e, rfl, hi', by
            have e : ([(c0, "value"), (c1, "value"), (c2, "value"), (c3, "value"), (c4, "value"), (c5, "value"), (c6, "value"), (c7, "value"), (c8, "value"), (c9, "value"), (c10, "kind"), (c11, "what"), (c12, "word")] : List (Addr × Str)).getD i ((0 : Addr), ("" : Str)) = (c, f) := by
              rw [List.getD_eq_getElem?_getD, show i = ((i : Nat) : Int).toNat from rfl, hc]
              rfl
            rw [e]
            exact hv', fun u B' H' s g => q u B' H' (s12.trans s.pure) (j12.pure s) g⟩
      · exact ⟨B11, e10.trans e11, a11, (o'.1, some (.int (i : Nat))), rfl⟩
    rintro σ' B10 H10 e10 a10 ⟨o', rfl⟩
    refine ⟨Nat.zero_le _, fun t ht x dx hx hdx hne => ⟨x, .ref t, rfl, fun dd H' hd eH hxd => ⟨true, exG, fun _ a0 ha0 => ?_, fun h => nomatch h⟩⟩⟩
    refine ⟨.ref a0, rfl, c0, dd, _, .ref c0, .ref c0, true, rfl, rfl, rfl, hxd, T.x_InvalidNumber.xf, T.x_InvalidNumber.isc, .own _, kitTab_get T.kt (i := 0) (j := 0) (Nat.zero_lt_succ _) (Nat.zero_lt_succ _), true, rfl, ?_⟩
    refine ⟨.ref a0, rfl, rfl, rfl, dd, _, .int 0, rfl, hxd, (by simp [List.lookup]), rfl, ?_⟩
    exact q _
end
end K01

namespace K01
open PySem PySem.Spec PyProof.Rows L2 Evl Ex Dx
theorem all_mk {l : PySem.W.OpenLaw} {w : World} {K : PySem.W.Frag} {h : Heap} {mg : Str → Option Value} {fa c0 c1 c2 c3 c4 c5 c6 c7 c8 c9 c10 c11 c12 G CP : Addr} {f_is_integer f_is_between f_law_box f_law_take f_law_pick f_law_ones f_law_kinds f_law : Addr} {tk : Tok} (X : K.In h) (N : h.Ns mainGlobals mg) (hfa : mg "law" = some (.ref fa))
    (e0 : XFact K "InvalidNumber" "value" "InvalidNumber.__init__" s_InvalidNumber_init c0)
    (e1 : XFact K "InvalidRules" "value" "InvalidRules.__init__" s_InvalidRules_init c1)
    (e2 : XFact K "InvalidRule" "value" "InvalidRule.__init__" s_InvalidRule_init c2)
    (e3 : XFact K "InvalidTrees" "value" "InvalidTrees.__init__" s_InvalidTrees_init c3)
    (e4 : XFact K "InvalidText" "value" "InvalidText.__init__" s_InvalidText_init c4)
    (e5 : XFact K "InvalidReading" "value" "InvalidReading.__init__" s_InvalidReading_init c5)
    (e6 : XFact K "InvalidRun" "value" "InvalidRun.__init__" s_InvalidRun_init c6)
    (e7 : XFact K "InvalidPlaces" "value" "InvalidPlaces.__init__" s_InvalidPlaces_init c7)
    (e8 : XFact K "InvalidQuestion" "value" "InvalidQuestion.__init__" s_InvalidQuestion_init c8)
    (e9 : XFact K "InvalidClaim" "value" "InvalidClaim.__init__" s_InvalidClaim_init c9)
    (e10 : XFact K "Endless" "kind" "Endless.__init__" s_Endless_init c10)
    (e11 : XFact K "Undefined" "what" "Undefined.__init__" s_Undefined_init c11)
    (e12 : XFact K "NothingToUndo" "word" "NothingToUndo.__init__" s_NothingToUndo_init c12)
    (g : GFact K "GraftError" G)
    (kt : kitTab K [c0, c1, c2, c3, c4, c5, c6, c7, c8, c9, c10, c11, c12] G = true)
    (exS : PySem.W.subIn K (.ref c0) (.ref G) = some true)
    (z_len : PySem.W.nsIn K mainGlobals "len" = some none)
    (z_abs : PySem.W.nsIn K mainGlobals "abs" = some none)
    (z_int : PySem.W.nsIn K mainGlobals "int" = some none)
    (z_str : PySem.W.nsIn K mainGlobals "str" = some none)
    (z_bool : PySem.W.nsIn K mainGlobals "bool" = some none)
    (z_isinstance : PySem.W.nsIn K mainGlobals "isinstance" = some none)
    (z_range : PySem.W.nsIn K mainGlobals "range" = some none)
    (z_ValueError : PySem.W.nsIn K mainGlobals "ValueError" = some none)
    (mk : PySem.W.nsIn K mainGlobals "MOST_KINDS" = some (some (.int 40 tk)))
    (pc : CFact K "Pairs" "Pairs.__init__" s_Pairs_init CP)
    (d_is_integer : DFact K "is_integer" s_is_integer f_is_integer)
    (d_is_between : DFact K "is_between" s_is_between f_is_between)
    (d_law_box : DFact K "_law_box" s_law_box f_law_box)
    (d_law_take : DFact K "_law_take" s_law_take f_law_take)
    (d_law_pick : DFact K "_law_pick" s_law_pick f_law_pick)
    (d_law_ones : DFact K "_law_ones" s_law_ones f_law_ones)
    (d_law_kinds : DFact K "_law_kinds" s_law_kinds f_law_kinds)
    (d_law : DFact K "law" s_law f_law) :
    ∃ fd : FuncData, (∀ (s : Shared) (v : Value), BindsTo s fd ⟨[v], []⟩ [("script", v)]) ∧ ∀ base : Heap, K.In base → base.Ns mainGlobals mg → FnOk l.prog w K mg base CX0 5 fa fd ["script"] (spLaw K) := by
  have e := hfa.symm.trans (PySem.W.mg_of X N d_law.a)
  cases e
  obtain ⟨fd, F⟩ := d_law.fn
  have b1 : ∀ fd, Fun K "law" "law" s_law fa fd → L2.Binds K fd ["script"] [] := fun fd F => F.binds fun _ _ _ _ _ _ us hl => match us, hl with | [_], _ => rfl
  refine ⟨fd, fun s v => ?_, fun base hK hN => ?_⟩
  · obtain ⟨oc, od, kV, doc, pm, an, cdv, ct, osl, rfl, lk, hcd⟩ := F.ex
    exact .of_eq rfl
  · have gG : mg "GraftError" = some (.ref G) := PySem.W.mg_of X N g.a
    have T : TX l.prog w K mg base c0 c1 c2 c3 c4 c5 c6 c7 c8 c9 c10 c11 c12 G :=
      { m_len := PySem.W.mg_none_of X N z_len, m_abs := PySem.W.mg_none_of X N z_abs, m_int := PySem.W.mg_none_of X N z_int, m_str := PySem.W.mg_none_of X N z_str, m_bool := PySem.W.mg_none_of X N z_bool, m_isinstance := PySem.W.mg_none_of X N z_isinstance, m_range := PySem.W.mg_none_of X N z_range, m_ValueError := PySem.W.mg_none_of X N z_ValueError,
        x_InvalidNumber := e0.at X N (fun f1 fd F => ok_InvalidNumber F gG g.rd g.gi e0.oc e0.no) (fun f1 fd F => F.binds fun _ _ _ _ _ _ us hl => match us, hl with | [_, _], _ => rfl),
        x_InvalidRules := e1.at X N (fun f1 fd F => ok_InvalidRules F gG g.rd g.gi e1.oc e1.no) (fun f1 fd F => F.binds fun _ _ _ _ _ _ us hl => match us, hl with | [_, _], _ => rfl),
        x_InvalidRule := e2.at X N (fun f1 fd F => ok_InvalidRule F gG g.rd g.gi e2.oc e2.no) (fun f1 fd F => F.binds fun _ _ _ _ _ _ us hl => match us, hl with | [_, _], _ => rfl),
        x_InvalidTrees := e3.at X N (fun f1 fd F => ok_InvalidTrees F gG g.rd g.gi e3.oc e3.no) (fun f1 fd F => F.binds fun _ _ _ _ _ _ us hl => match us, hl with | [_, _], _ => rfl),
        x_InvalidText := e4.at X N (fun f1 fd F => ok_InvalidText F gG g.rd g.gi e4.oc e4.no) (fun f1 fd F => F.binds fun _ _ _ _ _ _ us hl => match us, hl with | [_, _], _ => rfl),
        x_InvalidReading := e5.at X N (fun f1 fd F => ok_InvalidReading F gG g.rd g.gi e5.oc e5.no) (fun f1 fd F => F.binds fun _ _ _ _ _ _ us hl => match us, hl with | [_, _], _ => rfl),
        x_InvalidRun := e6.at X N (fun f1 fd F => ok_InvalidRun F gG g.rd g.gi e6.oc e6.no) (fun f1 fd F => F.binds fun _ _ _ _ _ _ us hl => match us, hl with | [_, _], _ => rfl),
        x_InvalidPlaces := e7.at X N (fun f1 fd F => ok_InvalidPlaces F gG g.rd g.gi e7.oc e7.no) (fun f1 fd F => F.binds fun _ _ _ _ _ _ us hl => match us, hl with | [_, _], _ => rfl),
        x_InvalidQuestion := e8.at X N (fun f1 fd F => ok_InvalidQuestion F gG g.rd g.gi e8.oc e8.no) (fun f1 fd F => F.binds fun _ _ _ _ _ _ us hl => match us, hl with | [_, _], _ => rfl),
        x_InvalidClaim := e9.at X N (fun f1 fd F => ok_InvalidClaim F gG g.rd g.gi e9.oc e9.no) (fun f1 fd F => F.binds fun _ _ _ _ _ _ us hl => match us, hl with | [_, _], _ => rfl),
        x_Endless := e10.at X N (fun f1 fd F => ok_Endless F gG g.rd g.gi e10.oc e10.no) (fun f1 fd F => F.binds fun _ _ _ _ _ _ us hl => match us, hl with | [_, _], _ => rfl),
        x_Undefined := e11.at X N (fun f1 fd F => ok_Undefined F gG g.rd g.gi e11.oc e11.no) (fun f1 fd F => F.binds fun _ _ _ _ _ _ us hl => match us, hl with | [_, _], _ => rfl),
        x_NothingToUndo := e12.at X N (fun f1 fd F => ok_NothingToUndo F gG g.rd g.gi e12.oc e12.no) (fun f1 fd F => F.binds fun _ _ _ _ _ _ us hl => match us, hl with | [_, _], _ => rfl),
        g_GraftError := gG, c_MOST_KINDS := ⟨tk, PySem.W.mg_of X N mk⟩, kt := kt }
    have C1 : Callee l.prog w K mg base "is_integer" 1 ["value"] (spInt K) := d_is_integer.callee X N (fun fd F => ok_is_integer F T.toTB) (fun fd F => F.binds fun _ _ _ _ _ _ us hl => match us, hl with | [_], _ => rfl)
    have C2 : Callee l.prog w K mg base "is_between" 2 ["value", "low", "high"] (spBetween K) := d_is_between.callee X N (fun fd F => ok_is_between F T.toTB C1) (fun fd F => F.binds fun _ _ _ _ _ _ us hl => match us, hl with | [_, _, _], _ => rfl)
    have C3 : Callee l.prog w K mg base "_law_box" 1 ["script", "k"] (spBox K) := d_law_box.callee X N (fun fd F => ok_box F T.toTB) (fun fd F => F.binds fun _ _ _ _ _ _ us hl => match us, hl with | [_, _], _ => rfl)
    have C4 : Callee l.prog w K mg base "_law_take" 1 ["box", "many"] (spTake K) := d_law_take.callee X N (fun fd F => ok_take F T.toTB) (fun fd F => F.binds fun _ _ _ _ _ _ us hl => match us, hl with | [_, _], _ => rfl)
    have C5 : Callee l.prog w K mg base "_law_pick" 2 ["box", "some"] (spPick K) := d_law_pick.callee X N (fun fd F => ok_pick F T.toTB C4) (fun fd F => F.binds fun _ _ _ _ _ _ us hl => match us, hl with | [_, _], _ => rfl)
    have C6 : Callee l.prog w K mg base "_law_ones" 3 ["v"] (spOnes K c0 c1 c2 c3 c4 c5 c6 c7 c8 c9) := d_law_ones.callee X N (fun fd F => ok_ones F T) (fun fd F => F.binds fun _ _ _ _ _ _ us hl => match us, hl with | [_], _ => rfl)
    have C7 : Callee l.prog w K mg base "_law_kinds" 1 ["e"] (spKinds K [(c0, "value"), (c1, "value"), (c2, "value"), (c3, "value"), (c4, "value"), (c5, "value"), (c6, "value"), (c7, "value"), (c8, "value"), (c9, "value"), (c10, "kind"), (c11, "what"), (c12, "word")]) := d_law_kinds.callee X N (fun fd F => ok_kinds F T) (fun fd F => F.binds fun _ _ _ _ _ _ us hl => match us, hl with | [_], _ => rfl)
    obtain ⟨fI, fdI, M, FI⟩ := pc.made
    exact ok_law F T C3 C4 C5 C6 C7 M (PySem.W.mg_of X N pc.a) (ok_pairs FI T C2) (FI.binds fun _ _ _ _ _ _ us hl => match us, hl with | [_, _, _], _ => rfl) (PySem.W.exm_ref g.eC g.hC g.tC exS)
theorem walk {l : PySem.W.OpenLaw} {q : Program} {loose : List Str} {XP : (Str → Option Value) → Heap → Prop} {YP : World → Heap → Prop} {d : DefRec} {K : Params → PySem.W.Frag} (hn : l.most = some 63) (hdf : d.params.defaults = [])
    (hY : ∀ (w : World) (h : Heap), YP w h → (K w.params).In h)
    (F : ∀ (w : World) (mg : Str → Option Value) (fa : Addr) (h : Heap), (K w.params).In h → h.Ns mainGlobals mg → mg d.name = some (.ref fa) →
      ∃ fd : FuncData, (∀ (s : Shared) (u : Value), BindsTo s fd ⟨[u], []⟩ [("script", u)]) ∧ ∀ base : Heap, (K w.params).In base → base.Ns mainGlobals mg → FnOk l.prog w (K w.params) mg base CX0 5 fa fd ["script"] (spLaw (K w.params))) :
    PySem.W.WalkO q loose XP YP l.row.toRowW d [] (fun f vs => PySem.call f vs) :=
  L2.walk_of (n := 63) (k := 5) (x := "script") (CX := fun _ => CX0) (sp := fun w => spLaw (K w.params)) hn (by decide) hdf ⟨rfl, by decide, by decide⟩ hY F (fun _ _ a ns hl _ hS => ⟨a, ns, rfl, hS, hl, fun _ => rfl⟩) fun _ _ _ _ _ z => z
end K01

open PySem PySem.W PyProof.Rows Dx in
set_option maxRecDepth 100000 in
set_option maxHeartbeats 0 in
theorem PySem.Challenge.cw_treestacks_k01_errors_holds : PySem.Challenge.rw_treestacks_k01_errors.Holds := by
  w_on; o_law; k_head; (case hw => w_witness2)
  k_fill
  refine K01.walk (l := PySem.Challenge.rw_treestacks_k01_errors) rfl rfl (fun w h Y => PySem.W.kIn_of Y) ?F
  case F =>
    intro w mg fa h KX G hmg
    refine' K01.all_mk KX G hmg ?e0 ?e1 ?e2 ?e3 ?e4 ?e5 ?e6 ?e7 ?e8 ?e9 ?e10 ?e11 ?e12 ?g ?kt ?exS ?z_len ?z_abs ?z_int ?z_str ?z_bool ?z_isinstance ?z_range ?z_ValueError ?mk ?pc ?d_is_integer ?d_is_between ?d_law_box ?d_law_take ?d_law_pick ?d_law_ones ?d_law_kinds ?d_law
    (case e0 => (refine' xfact_mk ?aC ?xL ?hbm ?sa ?ga ?gg ?nb ?a1 ?t1 ?l1 ?c1 ?k1 ?kC ?eC ?tC ?hC ?iC ?ca ?sg ?tk ?mo; (case aC => k_is); (case xL => k_is); (case hbm => decide +kernel); (case sa => k_is); (case ga => k_is); (case gg => k_is); (case nb => k_is); (case a1 => k_is); (case t1 => k_is); (case l1 => k_is); (case c1 => k_is); (case k1 => k_is); (case kC => k_is); (case eC => k_is); (case tC => k_is); (case hC => k_is); (case iC => k_is); (case ca => k_is); (case sg => k_is); (case tk => k_is); (case mo => k_is)))
    (case e1 => (refine' xfact_mk ?aC ?xL ?hbm ?sa ?ga ?gg ?nb ?a1 ?t1 ?l1 ?c1 ?k1 ?kC ?eC ?tC ?hC ?iC ?ca ?sg ?tk ?mo; (case aC => k_is); (case xL => k_is); (case hbm => decide +kernel); (case sa => k_is); (case ga => k_is); (case gg => k_is); (case nb => k_is); (case a1 => k_is); (case t1 => k_is); (case l1 => k_is); (case c1 => k_is); (case k1 => k_is); (case kC => k_is); (case eC => k_is); (case tC => k_is); (case hC => k_is); (case iC => k_is); (case ca => k_is); (case sg => k_is); (case tk => k_is); (case mo => k_is)))
    (case e2 => (refine' xfact_mk ?aC ?xL ?hbm ?sa ?ga ?gg ?nb ?a1 ?t1 ?l1 ?c1 ?k1 ?kC ?eC ?tC ?hC ?iC ?ca ?sg ?tk ?mo; (case aC => k_is); (case xL => k_is); (case hbm => decide +kernel); (case sa => k_is); (case ga => k_is); (case gg => k_is); (case nb => k_is); (case a1 => k_is); (case t1 => k_is); (case l1 => k_is); (case c1 => k_is); (case k1 => k_is); (case kC => k_is); (case eC => k_is); (case tC => k_is); (case hC => k_is); (case iC => k_is); (case ca => k_is); (case sg => k_is); (case tk => k_is); (case mo => k_is)))
    (case e3 => (refine' xfact_mk ?aC ?xL ?hbm ?sa ?ga ?gg ?nb ?a1 ?t1 ?l1 ?c1 ?k1 ?kC ?eC ?tC ?hC ?iC ?ca ?sg ?tk ?mo; (case aC => k_is); (case xL => k_is); (case hbm => decide +kernel); (case sa => k_is); (case ga => k_is); (case gg => k_is); (case nb => k_is); (case a1 => k_is); (case t1 => k_is); (case l1 => k_is); (case c1 => k_is); (case k1 => k_is); (case kC => k_is); (case eC => k_is); (case tC => k_is); (case hC => k_is); (case iC => k_is); (case ca => k_is); (case sg => k_is); (case tk => k_is); (case mo => k_is)))
    (case e4 => (refine' xfact_mk ?aC ?xL ?hbm ?sa ?ga ?gg ?nb ?a1 ?t1 ?l1 ?c1 ?k1 ?kC ?eC ?tC ?hC ?iC ?ca ?sg ?tk ?mo; (case aC => k_is); (case xL => k_is); (case hbm => decide +kernel); (case sa => k_is); (case ga => k_is); (case gg => k_is); (case nb => k_is); (case a1 => k_is); (case t1 => k_is); (case l1 => k_is); (case c1 => k_is); (case k1 => k_is); (case kC => k_is); (case eC => k_is); (case tC => k_is); (case hC => k_is); (case iC => k_is); (case ca => k_is); (case sg => k_is); (case tk => k_is); (case mo => k_is)))
    (case e5 => (refine' xfact_mk ?aC ?xL ?hbm ?sa ?ga ?gg ?nb ?a1 ?t1 ?l1 ?c1 ?k1 ?kC ?eC ?tC ?hC ?iC ?ca ?sg ?tk ?mo; (case aC => k_is); (case xL => k_is); (case hbm => decide +kernel); (case sa => k_is); (case ga => k_is); (case gg => k_is); (case nb => k_is); (case a1 => k_is); (case t1 => k_is); (case l1 => k_is); (case c1 => k_is); (case k1 => k_is); (case kC => k_is); (case eC => k_is); (case tC => k_is); (case hC => k_is); (case iC => k_is); (case ca => k_is); (case sg => k_is); (case tk => k_is); (case mo => k_is)))
    (case e6 => (refine' xfact_mk ?aC ?xL ?hbm ?sa ?ga ?gg ?nb ?a1 ?t1 ?l1 ?c1 ?k1 ?kC ?eC ?tC ?hC ?iC ?ca ?sg ?tk ?mo; (case aC => k_is); (case xL => k_is); (case hbm => decide +kernel); (case sa => k_is); (case ga => k_is); (case gg => k_is); (case nb => k_is); (case a1 => k_is); (case t1 => k_is); (case l1 => k_is); (case c1 => k_is); (case k1 => k_is); (case kC => k_is); (case eC => k_is); (case tC => k_is); (case hC => k_is); (case iC => k_is); (case ca => k_is); (case sg => k_is); (case tk => k_is); (case mo => k_is)))
    (case e7 => (refine' xfact_mk ?aC ?xL ?hbm ?sa ?ga ?gg ?nb ?a1 ?t1 ?l1 ?c1 ?k1 ?kC ?eC ?tC ?hC ?iC ?ca ?sg ?tk ?mo; (case aC => k_is); (case xL => k_is); (case hbm => decide +kernel); (case sa => k_is); (case ga => k_is); (case gg => k_is); (case nb => k_is); (case a1 => k_is); (case t1 => k_is); (case l1 => k_is); (case c1 => k_is); (case k1 => k_is); (case kC => k_is); (case eC => k_is); (case tC => k_is); (case hC => k_is); (case iC => k_is); (case ca => k_is); (case sg => k_is); (case tk => k_is); (case mo => k_is)))
    (case e8 => (refine' xfact_mk ?aC ?xL ?hbm ?sa ?ga ?gg ?nb ?a1 ?t1 ?l1 ?c1 ?k1 ?kC ?eC ?tC ?hC ?iC ?ca ?sg ?tk ?mo; (case aC => k_is); (case xL => k_is); (case hbm => decide +kernel); (case sa => k_is); (case ga => k_is); (case gg => k_is); (case nb => k_is); (case a1 => k_is); (case t1 => k_is); (case l1 => k_is); (case c1 => k_is); (case k1 => k_is); (case kC => k_is); (case eC => k_is); (case tC => k_is); (case hC => k_is); (case iC => k_is); (case ca => k_is); (case sg => k_is); (case tk => k_is); (case mo => k_is)))
    (case e9 => (refine' xfact_mk ?aC ?xL ?hbm ?sa ?ga ?gg ?nb ?a1 ?t1 ?l1 ?c1 ?k1 ?kC ?eC ?tC ?hC ?iC ?ca ?sg ?tk ?mo; (case aC => k_is); (case xL => k_is); (case hbm => decide +kernel); (case sa => k_is); (case ga => k_is); (case gg => k_is); (case nb => k_is); (case a1 => k_is); (case t1 => k_is); (case l1 => k_is); (case c1 => k_is); (case k1 => k_is); (case kC => k_is); (case eC => k_is); (case tC => k_is); (case hC => k_is); (case iC => k_is); (case ca => k_is); (case sg => k_is); (case tk => k_is); (case mo => k_is)))
    (case e10 => (refine' xfact_mk ?aC ?xL ?hbm ?sa ?ga ?gg ?nb ?a1 ?t1 ?l1 ?c1 ?k1 ?kC ?eC ?tC ?hC ?iC ?ca ?sg ?tk ?mo; (case aC => k_is); (case xL => k_is); (case hbm => decide +kernel); (case sa => k_is); (case ga => k_is); (case gg => k_is); (case nb => k_is); (case a1 => k_is); (case t1 => k_is); (case l1 => k_is); (case c1 => k_is); (case k1 => k_is); (case kC => k_is); (case eC => k_is); (case tC => k_is); (case hC => k_is); (case iC => k_is); (case ca => k_is); (case sg => k_is); (case tk => k_is); (case mo => k_is)))
    (case e11 => (refine' xfact_mk ?aC ?xL ?hbm ?sa ?ga ?gg ?nb ?a1 ?t1 ?l1 ?c1 ?k1 ?kC ?eC ?tC ?hC ?iC ?ca ?sg ?tk ?mo; (case aC => k_is); (case xL => k_is); (case hbm => decide +kernel); (case sa => k_is); (case ga => k_is); (case gg => k_is); (case nb => k_is); (case a1 => k_is); (case t1 => k_is); (case l1 => k_is); (case c1 => k_is); (case k1 => k_is); (case kC => k_is); (case eC => k_is); (case tC => k_is); (case hC => k_is); (case iC => k_is); (case ca => k_is); (case sg => k_is); (case tk => k_is); (case mo => k_is)))
    (case e12 => (refine' xfact_mk ?aC ?xL ?hbm ?sa ?ga ?gg ?nb ?a1 ?t1 ?l1 ?c1 ?k1 ?kC ?eC ?tC ?hC ?iC ?ca ?sg ?tk ?mo; (case aC => k_is); (case xL => k_is); (case hbm => decide +kernel); (case sa => k_is); (case ga => k_is); (case gg => k_is); (case nb => k_is); (case a1 => k_is); (case t1 => k_is); (case l1 => k_is); (case c1 => k_is); (case k1 => k_is); (case kC => k_is); (case eC => k_is); (case tC => k_is); (case hC => k_is); (case iC => k_is); (case ca => k_is); (case sg => k_is); (case tk => k_is); (case mo => k_is)))
    (case g => (refine' gfact_mk ?a ?r1 ?r2 ?gi ?eC ?hC ?tC; (case a => k_is); (case r1 => k_is); (case r2 => k_is); (case gi => k_is); (case eC => k_is); (case hC => k_is); (case tC => k_is)))
    (case z_len => k_is)
    (case z_abs => k_is)
    (case z_int => k_is)
    (case z_str => k_is)
    (case z_bool => k_is)
    (case z_isinstance => k_is)
    (case z_range => k_is)
    (case z_ValueError => k_is)
    (case mk => k_is)
    (case pc => (refine' cfact_mk ?a ?mk ?a1 ?i1 ?kc ?l1 ?c1 ?k1; (case a => k_is); (case mk => k_is); (case a1 => k_is); (case i1 => k_is); (case kc => k_is); (case l1 => k_is); (case c1 => k_is); (case k1 => k_is)))
    (case d_is_integer => (refine' dfact_mk ?a ?l1 ?c1 ?k1; (case a => k_is); (case l1 => k_is); (case c1 => k_is); (case k1 => k_is)))
    (case d_is_between => (refine' dfact_mk ?a ?l1 ?c1 ?k1; (case a => k_is); (case l1 => k_is); (case c1 => k_is); (case k1 => k_is)))
    (case d_law_box => (refine' dfact_mk ?a ?l1 ?c1 ?k1; (case a => k_is); (case l1 => k_is); (case c1 => k_is); (case k1 => k_is)))
    (case d_law_take => (refine' dfact_mk ?a ?l1 ?c1 ?k1; (case a => k_is); (case l1 => k_is); (case c1 => k_is); (case k1 => k_is)))
    (case d_law_pick => (refine' dfact_mk ?a ?l1 ?c1 ?k1; (case a => k_is); (case l1 => k_is); (case c1 => k_is); (case k1 => k_is)))
    (case d_law_ones => (refine' dfact_mk ?a ?l1 ?c1 ?k1; (case a => k_is); (case l1 => k_is); (case c1 => k_is); (case k1 => k_is)))
    (case d_law_kinds => (refine' dfact_mk ?a ?l1 ?c1 ?k1; (case a => k_is); (case l1 => k_is); (case c1 => k_is); (case k1 => k_is)))
    (case d_law => (refine' dfact_mk ?a ?l1 ?c1 ?k1; (case a => k_is); (case l1 => k_is); (case c1 => k_is); (case k1 => k_is)))
    (case exS => k_is)
    (case kt => kernel_rfl)
