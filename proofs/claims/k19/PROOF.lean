import PyProof.Rows.All
import Wide.All
import OpenK.AllK
import Wide.FinOn
import HandS.ForMost
import HandS.ForExc
import HandS.Flow
import HandS.Property
import HandS.IsInst
import HandS.SortRule
import HandS.CallSlots
import HandS.Wide
import HandS.Evl
import HandS.Lambda
import HandS.TupAny
import HandS.TupLe
import HandS.Style
import HandS.Conv
import HandS.Zip
import HandS.Small
import HandS.FStr
import HandS.RaiseMore
import HandS.TryOnly
import KE.KSuper
import KE.DataMinMax
import KE.SortData
import KE.DataFind
import OpenK.KOps
import HandS.TryMany
import KE.RegKSuper
import PySem.Challenge.RW_eventsim_k19_lines_by_hand_and_names
set_option Elab.async false
set_option linter.all false
set_option maxRecDepth 100000
set_option maxHeartbeats 4000000
/-! D1: values as deep data, objects that change as a small store; what relates them to the hand layer's heap. -/
namespace Dl
open PySem PySem.Spec PyProof.Rows L2 Evl

/-! ### data and values -/
mutual
inductive Da (K : PySem.W.Frag) (H : Hp) : V → PyData → Prop
  | non : Da K H .non .none
  | bl (b : Bool) : Da K H (.bl b) (.bool b)
  | int (i : Int) : Da K H (.int i) (.int i)
  | str (x : Str) : Da K H (.str x) (.str x)
  | lst {a : Addr} {vs : List V} {ds : List PyData} : Rd H a (.lst vs) → DaAll K H vs ds → Da K H (.ref a) (.list ds)
  | tup {a : Addr} {vs : List V} {ds : List PyData} : SqT K H a vs → DaAll K H vs ds → Da K H (.ref a) (.tuple ds)
  | dic {a : Addr} {kvs : List (Key × V)} {ks ds : List PyData} {es : List (PyData × PyData)} : Rd H a (.dK kvs) →
      DaAll K H (kvs.map fun p => kV p.1) ks → DaAll K H (kvs.map fun p => p.2) ds → es = ks.zip ds → Da K H (.ref a) (.dict es)
inductive DaAll (K : PySem.W.Frag) (H : Hp) : List V → List PyData → Prop
  | nil : DaAll K H [] []
  | cons {v : V} {vs : List V} {d : PyData} {ds : List PyData} : Da K H v d → DaAll K H vs ds → DaAll K H (v :: vs) (d :: ds)
end

section
variable {K : PySem.W.Frag} {H H' : Hp}
mutual
theorem Da.mono (e : Ex H H') : ∀ {v : V} {d : PyData}, Da K H v d → Da K H' v d
  | _, _, .non => .non
  | _, _, .bl b => .bl b
  | _, _, .int i => .int i
  | _, _, .str x => .str x
  | _, _, .lst s h => .lst (ex_rd e s) (DaAll.mono e h)
  | _, _, .tup s h => .tup (ex_t e s) (DaAll.mono e h)
  | _, _, .dic r h1 h2 q => .dic (ex_rd e r) (DaAll.mono e h1) (DaAll.mono e h2) q
theorem DaAll.mono (e : Ex H H') : ∀ {vs : List V} {ds : List PyData}, DaAll K H vs ds → DaAll K H' vs ds
  | _, _, .nil => .nil
  | _, _, .cons h t => .cons (Da.mono e h) (DaAll.mono e t)
end
theorem DaAll.length : ∀ {vs : List V} {ds : List PyData}, DaAll K H vs ds → vs.length = ds.length
  | _, _, .nil => rfl
  | _, _, .cons _ t => congrArg Nat.succ t.length
theorem DaAll.app : ∀ {vs ws : List V} {ds es : List PyData}, DaAll K H vs ds → DaAll K H ws es → DaAll K H (vs ++ ws) (ds ++ es)
  | _, _, _, _, .nil, t => t
  | _, _, _, _, .cons h s, t => .cons h (s.app t)
theorem DaAll.get : ∀ {vs : List V} {ds : List PyData} {i : Nat} {d : PyData}, DaAll K H vs ds → ds[i]? = some d → ∃ v, vs[i]? = some v ∧ Da K H v d
  | _, _, _, _, .nil, e => by simp at e
  | _, _, 0, _, .cons h _, e => by simp at e; subst e; exact ⟨_, rfl, h⟩
  | _, _, i + 1, d, .cons _ t, e => by
    obtain ⟨v, h1, h2⟩ := DaAll.get (i := i) (d := d) t (by simpa using e)
    exact ⟨v, by simpa using h1, h2⟩
theorem DaAll.get' : ∀ {vs : List V} {ds : List PyData} {i : Nat} {v : V}, DaAll K H vs ds → vs[i]? = some v → ∃ d, ds[i]? = some d ∧ Da K H v d
  | _, _, _, _, .nil, e => by simp at e
  | _, _, 0, _, .cons h _, e => by simp at e; subst e; exact ⟨_, rfl, h⟩
  | _, _, i + 1, v, .cons _ t, e => by
    obtain ⟨d, h1, h2⟩ := DaAll.get' (i := i) (v := v) t (by simpa using e)
    exact ⟨d, by simpa using h1, h2⟩
theorem DaAll.take : ∀ {vs : List V} {ds : List PyData} (n : Nat), DaAll K H vs ds → DaAll K H (vs.take n) (ds.take n)
  | _, _, 0, _ => by simp; exact .nil
  | _, _, n + 1, .nil => by simp; exact .nil
  | _, _, n + 1, .cons h t => by simp; exact .cons h (t.take n)
theorem DaAll.drop : ∀ {vs : List V} {ds : List PyData} (n : Nat), DaAll K H vs ds → DaAll K H (vs.drop n) (ds.drop n)
  | _, _, 0, h => by simpa using h
  | _, _, n + 1, .nil => by simp; exact .nil
  | _, _, n + 1, .cons _ t => by simpa using t.drop n
theorem DaAll.rev : ∀ {vs : List V} {ds : List PyData}, DaAll K H vs ds → DaAll K H vs.reverse ds.reverse
  | _, _, .nil => .nil
  | _, _, .cons h t => by
    rw [List.reverse_cons, List.reverse_cons]
    exact t.rev.app (.cons h .nil)
theorem DaAll.ints : ∀ (ns : List Int), DaAll K H (ns.map V.int) (ns.map PyData.int)
  | [] => .nil
  | n :: ns => .cons (.int n) (DaAll.ints ns)
end

/-- a value: data, or the address of an object that may change (or of a def, a class) , or any other -/
inductive Y where
  | d (x : PyData)
  | l (a : Addr)
  | v (x : V)
  /-- a list that is read alone -/
  | r (ds : List PyData)

inductive RV (K : PySem.W.Frag) (G : Hp) : V → Y → Prop
  | d {w : V} {x : PyData} : Da K G w x → RV K G w (.d x)
  | l (a : Addr) : RV K G (.ref a) (.l a)
  | v (x : V) : RV K G x (.v x)
  | r {a : Addr} {vs : List V} {ds : List PyData} : SqL K G a vs → DaAll K G vs ds → RV K G (.ref a) (.r ds)
theorem RV.da {K : PySem.W.Frag} {G : Hp} {w : V} {x : PyData} (h : RV K G w (.d x)) : Da K G w x := by
  cases h; assumption
abbrev RVs (K : PySem.W.Frag) (G : Hp) : List V → List Y → Prop := Paired (RV K G)

section
variable {K : PySem.W.Frag} {G G' : Hp}
theorem RV.mono (e : Ex G G') {w : V} : ∀ {y : Y}, RV K G w y → RV K G' w y
  | _, .d h => .d (Da.mono e h)
  | _, .l a => .l a
  | _, .v x => .v x
  | _, .r s h => .r (ex_l e s) (DaAll.mono e h)
theorem RVs.mono (e : Ex G G') : ∀ {ws : List V} {ys : List Y}, RVs K G ws ys → RVs K G' ws ys
  | _, _, .nil => .nil
  | _, _, .cons h t => .cons (h.mono e) (RVs.mono e t)
theorem RVs.length : ∀ {ws : List V} {ys : List Y}, RVs K G ws ys → ws.length = ys.length
  | _, _, .nil => rfl
  | _, _, .cons _ t => congrArg Nat.succ (RVs.length t)
theorem RVs.app : ∀ {ws ws' : List V} {ys ys' : List Y}, RVs K G ws ys → RVs K G ws' ys' → RVs K G (ws ++ ws') (ys ++ ys')
  | _, _, _, _, .nil, t => t
  | _, _, _, _, .cons h s, t => .cons h (RVs.app s t)
theorem RVs.get : ∀ {ws : List V} {ys : List Y} {i : Nat} {y : Y}, RVs K G ws ys → ys[i]? = some y → ∃ w, ws[i]? = some w ∧ RV K G w y
  | _, _, _, _, .nil, e => by simp at e
  | _, _, 0, _, .cons h _, e => by simp at e; subst e; exact ⟨_, rfl, h⟩
  | _, _, i + 1, y, .cons _ t, e => by
    obtain ⟨v, h1, h2⟩ := RVs.get (i := i) (y := y) t (by simpa using e)
    exact ⟨v, by simpa using h1, h2⟩
theorem RVs.get' : ∀ {ws : List V} {ys : List Y} {i : Nat} {w : V}, RVs K G ws ys → ws[i]? = some w → ∃ y, ys[i]? = some y ∧ RV K G w y
  | _, _, _, _, .nil, e => by simp at e
  | _, _, 0, _, .cons h _, e => by simp at e; subst e; exact ⟨_, rfl, h⟩
  | _, _, i + 1, w, .cons _ t, e => by
    obtain ⟨v, h1, h2⟩ := RVs.get' (i := i) (w := w) t (by simpa using e)
    exact ⟨v, by simpa using h1, h2⟩
theorem RVs.set {w : V} {y : Y} (h : RV K G w y) : ∀ {ws : List V} {ys : List Y} (i : Nat), RVs K G ws ys → RVs K G (ws.set i w) (ys.set i y)
  | _, _, _, .nil => .nil
  | _, _, 0, .cons _ t => .cons h t
  | _, _, i + 1, .cons q t => .cons q (RVs.set h i t)
theorem RVs.eraseIdx : ∀ {ws : List V} {ys : List Y} (i : Nat), RVs K G ws ys → RVs K G (ws.eraseIdx i) (ys.eraseIdx i)
  | _, _, _, .nil => .nil
  | _, _, 0, .cons _ t => t
  | _, _, i + 1, .cons q t => .cons q (RVs.eraseIdx i t)
theorem RVs.take : ∀ {ws : List V} {ys : List Y} (n : Nat), RVs K G ws ys → RVs K G (ws.take n) (ys.take n)
  | _, _, 0, _ => by simp; exact .nil
  | _, _, n + 1, .nil => by simp; exact .nil
  | _, _, n + 1, .cons h t => by simp; exact .cons h (RVs.take n t)
theorem RVs.drop : ∀ {ws : List V} {ys : List Y} (n : Nat), RVs K G ws ys → RVs K G (ws.drop n) (ys.drop n)
  | _, _, 0, h => by simpa using h
  | _, _, n + 1, .nil => by simp; exact .nil
  | _, _, n + 1, .cons _ t => by simpa using RVs.drop n t
theorem DaAll.rvs : ∀ {ws : List V} {ds : List PyData}, DaAll K G ws ds → RVs K G ws (ds.map Y.d)
  | _, _, .nil => .nil
  | _, _, .cons h t => .cons (.d h) t.rvs
theorem RVs.das : ∀ {ws : List V} {ds : List PyData}, RVs K G ws (ds.map Y.d) → DaAll K G ws ds
  | [], [], .nil => .nil
  | _ :: _, _ :: _, .cons h t => .cons h.da (RVs.das t)
end

/-! ### the store of objects that may change -/
inductive MO where
  | lst (ys : List Y)
  | tup (ys : List Y)
  | ins (C dx : Addr) (fs : List (Str × Y))
  | dic (kvs : List (Key × Y))
  /-- a table of code objects; T: all tables with the names of what they tell -/
  | tab (T : List (Addr × Str))
abbrev Mu := Addr → Option MO
def mu (m : Mu) (a : Addr) (o : MO) : Mu := fun b => if b = a then some o else m b
theorem mu_same {m : Mu} {a : Addr} {o : MO} : mu m a o a = some o := if_pos rfl
theorem mu_ne {m : Mu} {a b : Addr} {o : MO} (h : b ≠ a) : mu m a o b = m b := if_neg h
theorem mu_mu {m : Mu} {a : Addr} {o u : MO} : mu (mu m a o) a u = mu m a u := by
  funext b; unfold mu; split <;> rfl
theorem mu_self {m : Mu} {a : Addr} {o : MO} (h : m a = some o) : mu m a o = m := by
  funext b; unfold mu; split
  · rename_i e; rw [e, h]
  · rfl
abbrev RF (K : PySem.W.Frag) (G : Hp) : List (Str × V) → List (Str × Y) → Prop := Paired fun p q => p.1 = q.1 ∧ RV K G p.2 q.2
abbrev RK (K : PySem.W.Frag) (G : Hp) : List (Key × V) → List (Key × Y) → Prop := Paired fun p q => p.1 = q.1 ∧ RV K G p.2 q.2
inductive RO (K : PySem.W.Frag) (G : Hp) : HO → MO → Prop
  | lst {ws : List V} {ys : List Y} : RVs K G ws ys → RO K G (.lst ws) (.lst ys)
  | tup {ws : List V} {ys : List Y} : RVs K G ws ys → RO K G (.tup ws) (.tup ys)
  | ins {C dx : Addr} {fs : List (Str × V)} {gs : List (Str × Y)} : RF K G fs gs → RO K G (.ins C dx fs) (.ins C dx gs)
  | dic {fs : List (Key × V)} {gs : List (Key × Y)} : RK K G fs gs → RO K G (.dK fs) (.dic gs)
  | tab {ps : Array Value} {T : List (Addr × Str)} : RO K G (.tbl ps) (.tab T)

section
variable {K : PySem.W.Frag} {G G' H H' : Hp} {m : Mu} {p : Addr}
theorem RF.mono (e : Ex G G') : ∀ {fs : List (Str × V)} {gs : List (Str × Y)}, RF K G fs gs → RF K G' fs gs
  | _, _, .nil => .nil
  | _, _, .cons h t => .cons ⟨h.1, h.2.mono e⟩ (RF.mono e t)
theorem RK.mono (e : Ex G G') : ∀ {fs : List (Key × V)} {gs : List (Key × Y)}, RK K G fs gs → RK K G' fs gs
  | _, _, .nil => .nil
  | _, _, .cons h t => .cons ⟨h.1, h.2.mono e⟩ (RK.mono e t)
theorem RO.mono (e : Ex G G') {o : HO} {u : MO} (h : RO K G o u) : RO K G' o u := by
  cases h with
  | lst h => exact .lst (h.mono e)
  | tup h => exact .tup (h.mono e)
  | ins h => exact .ins (h.mono e)
  | dic h => exact .dic (h.mono e)
  | tab => exact .tab
/-- the table at P: what it tells is known in G -/
def TabG (G H : Hp) (P : Addr) (q : Str) : Prop := ∃ ps : Array Value, H P = some (.tbl ps) ∧ TriplesOk ps.toList ∧ ∀ (pos : Pos) (cv : Value), codeAmong pos ps.toList = some cv → ∃ c, cv = .ref c ∧ G c = some (LamX.CodeO c q)
/-- the tables of m: all of the same list, and all of this list -/
def TbOk (G : Hp) (m : Mu) (H : Hp) : Prop := ∀ a T, m a = some (.tab T) → (∃ q, (a, q) ∈ T) ∧ (∀ p ∈ T, m p.1 = some (.tab T) ∧ TabG G H p.1 p.2) ∧ ∀ b T', m b = some (.tab T') → T' = T
theorem TbOk.keep {m' : Mu} (r : TbOk G m H) (e : Ex G G') (h1 : ∀ a T, m' a = some (.tab T) → m a = some (.tab T)) (h2 : ∀ a T, m a = some (.tab T) → m' a = some (.tab T)) (h3 : ∀ a o, H a = some o → (∃ T, m a = some (.tab T)) → H' a = some o) : TbOk G' m' H' := fun a T h => by
  obtain ⟨a1, a2, a3⟩ := r a T (h1 a T h)
  refine ⟨a1, fun p hp => ?_, fun b T' hb => a3 b T' (h1 b T' hb)⟩
  obtain ⟨b1, ps, c1, c2, c3⟩ := a2 p hp
  refine ⟨h2 _ _ b1, ps, h3 _ _ c1 ⟨T, b1⟩, c2, fun pos cv hc => ?_⟩
  obtain ⟨c, d1, d2⟩ := c3 pos cv hc
  exact ⟨c, d1, e _ _ d2⟩
/-- G holds the data, m the objects that may change: both are parts of H -/
structure Rh (K : PySem.W.Frag) (G : Hp) (m : Mu) (H : Hp) : Prop where
  sub : Ex G H
  off : ∀ a o, m a = some o → G a = none
  mem : ∀ a o, m a = some o → ∃ h, H a = some h ∧ RO K G h o
  tb : TbOk G m H
  nt : ∀ b ps, G b ≠ some (.tbl ps)
theorem nt_upd {o : HO} (h : ∀ b ps, G b ≠ some (.tbl ps)) (ho : ∀ ps, o ≠ .tbl ps) : ∀ b ps, upd G p o b ≠ some (.tbl ps) := fun b ps e => by
  by_cases q : b = p
  · subst q; rw [upd_same] at e; exact ho ps (Option.some.inj e)
  · rw [upd_ne q] at e; exact h b ps e
theorem Rh.free (r : Rh K G m H) (h : H p = none) : G p = none ∧ m p = none := by
  constructor
  · cases e : G p with
    | none => rfl
    | some o => rw [r.sub p o e] at h; cases h
  · cases e : m p with
    | none => rfl
    | some o =>
      obtain ⟨u, q, _⟩ := r.mem p o e
      rw [q] at h; cases h
/-- more data -/
theorem Rh.data {o : HO} (r : Rh K G m H) (h : H p = none) (ho : ∀ ps, o ≠ .tbl ps := by intro _ z; cases z) : Ex G (upd G p o) ∧ Rh K (upd G p o) m (upd H p o) := by
  have f := r.free h
  have e1 : Ex G (upd G p o) := Ex.new f.1
  refine ⟨e1, ⟨fun a u e => ?_, fun a u e => ?_, fun a u e => ?_, r.tb.keep e1 (fun _ _ z => z) (fun _ _ z => z) fun a o e _ => by rw [upd_ne (ne_of_none e h)]; exact e, nt_upd r.nt ho⟩⟩
  · by_cases q : a = p
    · subst q; rw [upd_same] at e ⊢; exact e
    · rw [upd_ne q] at e ⊢; exact r.sub a u e
  · have q : a ≠ p := fun q => by subst q; rw [f.2] at e; cases e
    rw [upd_ne q]; exact r.off a u e
  · have q : a ≠ p := fun q => by subst q; rw [f.2] at e; cases e
    obtain ⟨w, e2, e3⟩ := r.mem a u e
    exact ⟨w, by rw [upd_ne q]; exact e2, e3.mono e1⟩
/-- a new object that may change -/
theorem mu_tab {u : MO} (hu : ∀ T, u ≠ .tab T) {a : Addr} {T : List (Addr × Str)} (h : mu m p u a = some (.tab T)) : m a = some (.tab T) := by
  by_cases q : a = p
  · subst q; rw [mu_same] at h; cases h; exact absurd rfl (hu T)
  · rw [mu_ne q] at h; exact h
theorem Rh.new {o : HO} {u : MO} (r : Rh K G m H) (h : H p = none) (ro : RO K G o u) (hu : ∀ T, u ≠ .tab T := by intro _ z; cases z) : Rh K G (mu m p u) (upd H p o) := by
  have f := r.free h
  refine ⟨fun a u e => ?_, fun a w e => ?_, fun a w e => ?_, r.tb.keep (Ex.refl G) (fun a T z => mu_tab hu z) (fun a T z => by rw [mu_ne (fun e => by rw [e, f.2] at z; cases z)]; exact z) (fun a o e _ => by rw [upd_ne (ne_of_none e h)]; exact e), r.nt⟩
  · rw [upd_ne (ne_of_none (r.sub a u e) h)]; exact r.sub a u e
  · by_cases q : a = p
    · subst q; exact f.1
    · rw [mu_ne q] at e; exact r.off a w e
  · by_cases q : a = p
    · subst q; rw [mu_same] at e; cases e; exact ⟨o, upd_same, ro⟩
    · rw [mu_ne q] at e
      obtain ⟨x, e2, e3⟩ := r.mem a w e
      exact ⟨x, by rw [upd_ne q]; exact e2, e3⟩
/-- an object changed -/
theorem Rh.write {o : HO} {u u0 : MO} (r : Rh K G m H) (h : m p = some u0) (ro : RO K G o u) (hu : ∀ T, u ≠ .tab T := by intro _ z; cases z) (hu0 : ∀ T, u0 ≠ .tab T := by intro _ z; cases z) : Rh K G (mu m p u) (upd H p o) := by
  have f := r.off p u0 h
  have np : ∀ a, (∃ T, m a = some (.tab T)) → a ≠ p := fun a ⟨T, z⟩ e => by rw [e, h] at z; cases z; exact hu0 T rfl
  refine ⟨fun a x e => ?_, fun a w e => ?_, fun a w e => ?_, r.tb.keep (Ex.refl G) (fun a T z => mu_tab hu z) (fun a T z => by rw [mu_ne (np a ⟨T, z⟩)]; exact z) (fun a o e z => by rw [upd_ne (np a z)]; exact e), r.nt⟩
  · rw [upd_ne (ne_of_none e f)]; exact r.sub a x e
  · by_cases q : a = p
    · subst q; exact f
    · rw [mu_ne q] at e; exact r.off a w e
  · by_cases q : a = p
    · subst q; rw [mu_same] at e; cases e; exact ⟨o, upd_same, ro⟩
    · rw [mu_ne q] at e
      obtain ⟨x, e2, e3⟩ := r.mem a w e
      exact ⟨x, by rw [upd_ne q]; exact e2, e3⟩
theorem Rh.lst {ys : List Y} (r : Rh K G m H) (h : m p = some (.lst ys)) : ∃ ws, H p = some (.lst ws) ∧ RVs K G ws ys := by
  obtain ⟨o, e, q⟩ := r.mem p _ h
  cases q with
  | lst q => exact ⟨_, e, q⟩
theorem Rh.tup {ys : List Y} (r : Rh K G m H) (h : m p = some (.tup ys)) : ∃ ws, H p = some (.tup ws) ∧ RVs K G ws ys := by
  obtain ⟨o, e, q⟩ := r.mem p _ h
  cases q with
  | tup q => exact ⟨_, e, q⟩
theorem Rh.ins {C dx : Addr} {gs : List (Str × Y)} (r : Rh K G m H) (h : m p = some (.ins C dx gs)) : ∃ fs, H p = some (.ins C dx fs) ∧ RF K G fs gs := by
  obtain ⟨o, e, q⟩ := r.mem p _ h
  cases q with
  | ins q => exact ⟨_, e, q⟩
theorem Rh.dic {gs : List (Key × Y)} (r : Rh K G m H) (h : m p = some (.dic gs)) : ∃ fs, H p = some (.dK fs) ∧ RK K G fs gs := by
  obtain ⟨o, e, q⟩ := r.mem p _ h
  cases q with
  | dic q => exact ⟨_, e, q⟩
/-- a lambda was made: all but the tables stays -/
theorem Rh.lam {H1 : Hp} {P : Addr} {T : List (Addr × Str)} (r : Rh K G m H) (hP : m P = some (.tab T)) (e : LamX.ExtN H H1) (t : LamX.Tabs T H1) : ∃ G1, Ex G G1 ∧ Rh K G1 m H1 ∧ ∀ c q, H1 c = some (LamX.CodeO c q) → G1 c = some (LamX.CodeO c q) := by
  classical
  obtain ⟨_, a2, a3⟩ := r.tb P T hP
  have old : ∀ b o, G b = some o → H1 b = some o := fun b o z => e b o (r.sub b o z) fun ps q => r.nt b ps (by rw [z, q])
  let G1 : Hp := fun b => if (∃ q, H1 b = some (LamX.CodeO b q)) ∧ m b = none then H1 b else G b
  have g1 : ∀ b o, G b = some o → G1 b = some o := fun b o z => by
    show (if (∃ q, H1 b = some (LamX.CodeO b q)) ∧ m b = none then H1 b else G b) = some o
    split
    · exact old b o z
    · exact z
  have sub1 : ∀ b o, G1 b = some o → H1 b = some o := fun b o z => by
    have z' : (if (∃ q, H1 b = some (LamX.CodeO b q)) ∧ m b = none then H1 b else G b) = some o := z
    split at z'
    · exact z'
    · exact old b o z'
  have tabO : ∀ a u, m a = some u → (∃ T', u = .tab T') ∨ ∃ h, H1 a = some h ∧ RO K G h u := fun a u z => by
    obtain ⟨h, q1, q2⟩ := r.mem a u z
    cases q2 with
    | tab => exact .inl ⟨_, rfl⟩
    | lst q => exact .inr ⟨_, e _ _ q1 (fun _ z => by cases z), .lst q⟩
    | tup q => exact .inr ⟨_, e _ _ q1 (fun _ z => by cases z), .tup q⟩
    | ins q => exact .inr ⟨_, e _ _ q1 (fun _ z => by cases z), .ins q⟩
    | dic q => exact .inr ⟨_, e _ _ q1 (fun _ z => by cases z), .dic q⟩
  have offC : ∀ c q, H1 c = some (LamX.CodeO c q) → m c = none := fun c q d2 => by
    cases ec : m c with
    | none => rfl
    | some u =>
      exfalso
      rcases tabO c u ec with ⟨T2, rfl⟩ | ⟨h, z1, z2⟩
      · have eT2 := a3 c T2 ec
        subst eT2
        obtain ⟨⟨q, hq⟩, _, _⟩ := r.tb c T2 ec
        obtain ⟨ps2, y1, _, _⟩ := t _ hq
        have y1' : H1 c = some (.tbl ps2) := y1
        rw [d2] at y1'
        exact LamX.codeO_ne ps2 (Option.some.inj y1')
      · rw [d2] at z1
        have := Option.some.inj z1
        unfold LamX.CodeO at this
        cases z2 <;> cases this
  have inC : ∀ c q, H1 c = some (LamX.CodeO c q) → G1 c = some (LamX.CodeO c q) := fun c q d2 => by
    show (if (∃ q, H1 c = some (LamX.CodeO c q)) ∧ m c = none then H1 c else G c) = _
    rw [if_pos ⟨⟨_, d2⟩, offC c q d2⟩]
    exact d2
  refine ⟨G1, g1, ⟨sub1, fun a u z => ?_, fun a u z => ?_, fun a T' z => ?_, fun b ps z => ?_⟩, inC⟩
  · show (if (∃ q, H1 a = some (LamX.CodeO a q)) ∧ m a = none then H1 a else G a) = none
    rw [if_neg (fun y => by rw [z] at y; cases y.2)]
    exact r.off a u z
  · rcases tabO a u z with ⟨T', rfl⟩ | ⟨h, q1, q2⟩
    · have eT := a3 a T' z
      subst eT
      obtain ⟨⟨q, hq⟩, _, _⟩ := r.tb a T' z
      obtain ⟨ps, q1, _, _⟩ := t _ hq
      exact ⟨_, q1, .tab⟩
    · exact ⟨h, q1, q2.mono g1⟩
  · obtain ⟨b1, b2, b3⟩ := r.tb a T' z
    refine ⟨b1, fun p hp => ⟨(b2 p hp).1, ?_⟩, b3⟩
    have eT := a3 a T' z
    subst eT
    obtain ⟨ps, q1, q2, q3⟩ := t p hp
    refine ⟨ps, q1, q2, fun pos cv hc => ?_⟩
    obtain ⟨c, d1, d2⟩ := q3 pos cv hc
    exact ⟨c, d1, inC c _ d2⟩
  · have z' : (if (∃ q, H1 b = some (LamX.CodeO b q)) ∧ m b = none then H1 b else G b) = some (.tbl ps) := z
    split at z'
    · rename_i y
      obtain ⟨⟨q, y1⟩, _⟩ := y
      rw [y1] at z'
      exact LamX.codeO_ne ps (Option.some.inj z')
    · exact r.nt b ps z'
/-- a list that changes no more is data from now on -/
theorem Rh.frz {ds : List PyData} (r : Rh K G m H) (h : m p = some (.lst (ds.map Y.d))) :
    ∃ G', Ex G G' ∧ Rh K G' (fun b => if b = p then none else m b) H ∧ RV K G' (.ref p) (.d (.list ds)) := by
  obtain ⟨ws, e, q⟩ := r.lst h
  have f := r.off p _ h
  have e1 : Ex G (upd G p (.lst ws)) := Ex.new f
  have np : ∀ a, (∃ T, m a = some (.tab T)) → a ≠ p := fun a ⟨T, z⟩ e => by rw [e, h] at z; cases z
  refine ⟨upd G p (.lst ws), e1, ⟨fun a u e2 => ?_, fun a u e2 => ?_, fun a u e2 => ?_, r.tb.keep e1 (fun a T z => by
    have z' : (if a = p then none else m a) = some (.tab T) := z
    by_cases q : a = p
    · rw [if_pos q] at z'; cases z'
    · rwa [if_neg q] at z') (fun a T z => by show (if a = p then none else m a) = _; rw [if_neg (np a ⟨T, z⟩)]; exact z) (fun _ _ e _ => e), nt_upd r.nt (fun _ z => by cases z)⟩, .d (.lst (.inl upd_same) ((RVs.das q).mono e1))⟩
  · by_cases z : a = p
    · subst z; rw [upd_same] at e2; cases e2; exact e
    · rw [upd_ne z] at e2; exact r.sub a u e2
  · have e2' : (if a = p then none else m a) = some u := e2
    by_cases z : a = p
    · rw [if_pos z] at e2'; cases e2'
    · rw [if_neg z] at e2'; rw [upd_ne z]; exact r.off a u e2'
  · have e2' : (if a = p then none else m a) = some u := e2
    by_cases z : a = p
    · rw [if_pos z] at e2'; cases e2'
    · rw [if_neg z] at e2'
      obtain ⟨x, e3, e4⟩ := r.mem a u e2'
      exact ⟨x, e3, e4.mono e1⟩
theorem RF.lookup {f : Str} : ∀ {fs : List (Str × V)} {gs : List (Str × Y)} {y : Y}, RF K G fs gs → gs.lookup f = some y → ∃ w, fs.lookup f = some w ∧ RV K G w y
  | _, _, _, .nil, e => by simp at e
  | (a, _) :: _, (b, _) :: _, y, .cons h t, e => by
    obtain ⟨h1, h2⟩ := h
    have h1' : a = b := h1
    subst h1'
    by_cases q : (f == a) = true
    · rw [List.lookup, q] at e ⊢
      cases e; exact ⟨_, rfl, h2⟩
    · have q' : (f == a) = false := by simpa using q
      rw [List.lookup, q'] at e ⊢
      exact RF.lookup t e
theorem RF.lookup_none {f : Str} : ∀ {fs : List (Str × V)} {gs : List (Str × Y)}, RF K G fs gs → gs.lookup f = none → fs.lookup f = none
  | _, _, .nil, _ => rfl
  | (a, _) :: _, (b, _) :: _, .cons h t, e => by
    obtain ⟨h1, h2⟩ := h
    have h1' : a = b := h1
    subst h1'
    by_cases q : (f == a) = true
    · rw [List.lookup, q] at e; cases e
    · have q' : (f == a) = false := by simpa using q
      rw [List.lookup, q'] at e ⊢
      exact RF.lookup_none t e
def putY (f : Str) (v : Y) : List (Str × Y) → List (Str × Y)
  | [] => [(f, v)]
  | (g, w) :: r => if g = f then (g, v) :: r else (g, w) :: putY f v r
theorem RF.length : ∀ {fs : List (Str × V)} {gs : List (Str × Y)}, RF K G fs gs → fs.length = gs.length
  | _, _, .nil => rfl
  | _, _, .cons _ t => congrArg Nat.succ (RF.length t)
end

/-! ### the def's slots -/
abbrev Ro := List (Option Y)
inductive RS1 (K : PySem.W.Frag) (G : Hp) : Option V → Option Y → Prop
  | any (o : Option V) : RS1 K G o none
  | is {w : V} {y : Y} : RV K G w y → RS1 K G (some w) (some y)
abbrev Rs (K : PySem.W.Frag) (G : Hp) : L2.St → Ro → Prop := Paired (RS1 K G)
section
variable {K : PySem.W.Frag} {G G' : Hp}
theorem Rs.mono (e : Ex G G') : ∀ {s : L2.St} {r : Ro}, Rs K G s r → Rs K G' s r
  | _, _, .nil => .nil
  | _, _, .cons h t => .cons (by cases h with | any => exact .any _ | is q => exact .is (q.mono e)) (Rs.mono e t)
theorem Rs.get : ∀ {s : L2.St} {r : Ro} {i : Nat} {y : Y}, Rs K G s r → r[i]? = some (some y) → ∃ w, s[i]? = some (some w) ∧ RV K G w y
  | _, _, _, _, .nil, e => by simp at e
  | _, _, 0, _, .cons h _, e => by
    simp at e; subst e
    cases h with
    | is q => exact ⟨_, rfl, q⟩
  | _, _, i + 1, y, .cons _ t, e => by
    obtain ⟨v, h1, h2⟩ := Rs.get (i := i) (y := y) t (by simpa using e)
    exact ⟨v, by simpa using h1, h2⟩
theorem Rs.set {w : V} {y : Y} (h : RV K G w y) : ∀ {s : L2.St} {r : Ro} (i : Nat), Rs K G s r → Rs K G (s.set i (some w)) (r.set i (some y))
  | _, _, _, .nil => .nil
  | _, _, 0, .cons _ t => .cons (.is h) t
  | _, _, i + 1, .cons q t => .cons q (Rs.set h i t)
theorem Rs.wipe1 : ∀ {s : L2.St} {r : Ro} (i : Nat), Rs K G s r → Rs K G (s.set i none) (r.set i none)
  | _, _, _, .nil => .nil
  | _, _, 0, .cons _ t => .cons (.any _) t
  | _, _, i + 1, .cons q t => .cons q (Rs.wipe1 i t)
theorem Rs.forget : ∀ {s : L2.St} {r : Ro} (i : Nat), Rs K G s r → Rs K G s (r.set i none)
  | _, _, _, .nil => .nil
  | _, _, 0, .cons _ t => .cons (.any _) t
  | _, _, i + 1, .cons q t => .cons q (Rs.forget i t)
theorem Rs.length : ∀ {s : L2.St} {r : Ro}, Rs K G s r → s.length = r.length
  | _, _, .nil => rfl
  | _, _, .cons _ t => congrArg Nat.succ (Rs.length t)
/-- less known -/
theorem Rs.le {s : L2.St} : ∀ {r r' : Ro}, Rs K G s r → Paired (fun a b => b = none ∨ b = a) r r' → Rs K G s r' := by
  intro r r' h
  induction h generalizing r' with
  | nil => intro q; cases q; exact .nil
  | cons h t ih =>
    intro q
    cases q with
    | cons q1 q2 =>
      rcases q1 with q1 | q1
      · subst q1; exact .cons (.any _) (ih q2)
      · subst q1; exact .cons h (ih q2)
end
end Dl
/-! D2: readings by what they mean (SE ..), data transformers (XE ..), what joins them (DE ..); expressions. -/
namespace Dl
open PySem PySem.Spec PyProof.Rows L2 Evl

/-! ### readings by what they mean -/
section
variable (X : Cx)
def SE (e : Expr) : TE := fun σ H Q => ∀ (pins : List (Addr × Obj)) (s : Shared), Inv X pins σ H s → wpAny (model X.prog X.w) X.A (eval e X.env) (EP X pins σ Q) X.xe s
def STe (e : Expr) : TT := fun σ H Q => ∀ (pins : List (Addr × Obj)) (s : Shared), Inv X pins σ H s → wpAny (model X.prog X.w) X.A (isTrue e X.env (eval e X.env)) (TP X pins σ Q) X.xe s
def SWe (e : Expr) : TT := fun σ H Q => ∀ (wh : Sem Value) (pins : List (Addr × Obj)) (s : Shared), Inv X pins σ H s → wpAny (model X.prog X.w) X.A (isTrue e X.env wh) (TP X pins σ Q) X.xe s
def SA (es : List Expr) : TA := fun σ H Q => ∀ (pos : Pos) (pins : List (Addr × Obj)) (s : Shared), Inv X pins σ H s → wpAny (model X.prog X.w) X.A (spliced (backTo pos (starEach es X.env))) (AP X pins σ Q) X.xe s
end
section
variable {X : Cx} {e : Expr} {es : List Expr} {σ : L2.St} {H : Hp}
theorem se_pe : PE X e (SE X e) := ⟨fun pins s _ _ _ I h => h pins s I⟩
theorem st_pt : PT X e (STe X e) := ⟨fun pins s _ _ _ I h => h pins s I⟩
theorem sw_pw : PW X e (SWe X e) := ⟨fun wh pins s _ _ _ I h => h wh pins s I⟩
theorem sa_pa : PA X es (SA X es) := ⟨fun pos pins s _ _ _ I h => h pos pins s I⟩
theorem se_of {t : TE} {Q : VK} (h : PE X e t) (q : t σ H Q) : SE X e σ H Q := fun pins s I => h.run pins s σ H Q I q
theorem st_of' {t : TT} {Q : Bool → Hp → Prop} (h : PT X e t) (q : t σ H Q) : STe X e σ H Q := fun pins s I => h.run pins s σ H Q I q
theorem sw_of {t : TT} {Q : Bool → Hp → Prop} (h : PW X e t) (q : t σ H Q) : SWe X e σ H Q := fun wh pins s I => h.run wh pins s σ H Q I q
theorem sa_of {t : TA} {Q : List V → Hp → Prop} (h : PA X es t) (q : t σ H Q) : SA X es σ H Q := fun pos pins s I => h.run pos pins s σ H Q I q
end

/-! ### data transformers -/
abbrev XP := Value → List (Str × Y) → Mu → Prop
abbrev XE := Ro → Mu → (Y → Mu → Prop) → XP → Prop
abbrev XT := Ro → Mu → (Bool → Mu → Prop) → XP → Prop
abbrev XA := Ro → Mu → (List Y → Mu → Prop) → XP → Prop
def XF (K : PySem.W.Frag) (G H : Hp) (d : Option Addr) (fs : List (Str × Y)) : Prop := (fs = [] ∧ d = none) ∨ fs ≠ [] ∧ ∃ a vs, d = some a ∧ H a = some (.xd vs) ∧ G a = none ∧ RF K G vs fs
def CvE (K : PySem.W.Frag) (G : Hp) (F : Y → Mu → Prop) (Q : VK) : Prop := ∀ v y G' m' H', Ex G G' → Rh K G' m' H' → RV K G' v y → F y m' → Q v H'
def CvT (K : PySem.W.Frag) (G : Hp) (F : Bool → Mu → Prop) (Q : Bool → Hp → Prop) : Prop := ∀ b G' m' H', Ex G G' → Rh K G' m' H' → F b m' → Q b H'
def CvA (K : PySem.W.Frag) (G : Hp) (F : List Y → Mu → Prop) (Q : List V → Hp → Prop) : Prop := ∀ vs ys G' m' H', Ex G G' → Rh K G' m' H' → RVs K G' vs ys → F ys m' → Q vs H'
def CvX (K : PySem.W.Frag) (G : Hp) (P : XP) (E : XK) : Prop := ∀ cls d fs G' m' H', Ex G G' → Rh K G' m' H' → XF K G' H' d fs → P cls fs m' → E cls d H'
section
variable {K : PySem.W.Frag} {G G' : Hp}
theorem CvE.mono {F : Y → Mu → Prop} {Q : VK} (e : Ex G G') (c : CvE K G F Q) : CvE K G' F Q := fun v y G1 m H e1 => c v y G1 m H (e.trans e1)
theorem CvT.mono {F : Bool → Mu → Prop} {Q : Bool → Hp → Prop} (e : Ex G G') (c : CvT K G F Q) : CvT K G' F Q := fun b G1 m H e1 => c b G1 m H (e.trans e1)
theorem CvA.mono {F : List Y → Mu → Prop} {Q : List V → Hp → Prop} (e : Ex G G') (c : CvA K G F Q) : CvA K G' F Q := fun v y G1 m H e1 => c v y G1 m H (e.trans e1)
theorem CvX.mono {P : XP} {E : XK} (e : Ex G G') (c : CvX K G P E) : CvX K G' P E := fun v y f G1 m H e1 => c v y f G1 m H (e.trans e1)
theorem CvE.at {F : Y → Mu → Prop} {Q : VK} {m : Mu} {H : Hp} {v : V} {y : Y} (c : CvE K G F Q) (r : Rh K G m H) (rv : RV K G v y) (h : F y m) : Q v H := c v y G m H (Ex.refl G) r rv h
end
abbrev WEx (W : WX) (σ : L2.St) : XK := fun c d H => W c d σ H

structure DE (X : Cx) (W : WX) (e : Expr) (t : XE) : Prop where
  run : ∀ {G : Hp} {r : Ro} {m : Mu} {σ : L2.St} {H : Hp} {F : Y → Mu → Prop} {P : XP} {Q : VK}, Rs X.K G σ r → Rh X.K G m H → t r m F P → CvE X.K G F Q → CvX X.K G P (WEx W σ) → SE X e σ H Q
structure DT (X : Cx) (W : WX) (e : Expr) (t : XT) : Prop where
  run : ∀ {G : Hp} {r : Ro} {m : Mu} {σ : L2.St} {H : Hp} {F : Bool → Mu → Prop} {P : XP} {Q : Bool → Hp → Prop}, Rs X.K G σ r → Rh X.K G m H → t r m F P → CvT X.K G F Q → CvX X.K G P (WEx W σ) → STe X e σ H Q
structure DW (X : Cx) (W : WX) (e : Expr) (t : XT) : Prop where
  run : ∀ {G : Hp} {r : Ro} {m : Mu} {σ : L2.St} {H : Hp} {F : Bool → Mu → Prop} {P : XP} {Q : Bool → Hp → Prop}, Rs X.K G σ r → Rh X.K G m H → t r m F P → CvT X.K G F Q → CvX X.K G P (WEx W σ) → SWe X e σ H Q
structure DA (X : Cx) (W : WX) (es : List Expr) (t : XA) : Prop where
  run : ∀ {G : Hp} {r : Ro} {m : Mu} {σ : L2.St} {H : Hp} {F : List Y → Mu → Prop} {P : XP} {Q : List V → Hp → Prop}, Rs X.K G σ r → Rh X.K G m H → t r m F P → CvA X.K G F Q → CvX X.K G P (WEx W σ) → SA X es σ H Q

section
variable {X : Cx} {W : WX} {e a b c : Expr} {es : List Expr} {pos : Pos} {t ta tb tc : XE} {tt : XT}

/-! ### names, constants -/
abbrev xVar (i : Nat) : XE := fun r m F _ => ∃ y, r[i]? = some (some y) ∧ F y m
theorem de_var {i : Nat} (h : PE X e (tVar i)) : DE X W e (xVar i) := ⟨fun {G r m σ H F P Q} rs rh hx cv _ => by
  obtain ⟨y, e1, f⟩ := hx
  obtain ⟨w, e2, rv⟩ := rs.get e1
  exact se_of h ⟨w, e2, cv.at rh rv f⟩⟩
abbrev xC (y : Y) : XE := fun _ m F _ => F y m
theorem de_c {v : V} {y : Y} (h : PE X e (tC v)) (rv : ∀ G, RV X.K G v y) : DE X W e (xC y) := ⟨fun {G r m σ H F P Q} rs rh hx cv _ => se_of h (cv.at rh (rv G) hx)⟩
theorem de_int {i : Int} {j : Nat} : DE X W (.Constant (.int i) j pos) (xC (.d (.int i))) := de_c pe_int fun _ => .d (Da.int i)
theorem de_bl {i : Bool} {j : Nat} : DE X W (.Constant (.bool i) j pos) (xC (.d (.bool i))) := de_c pe_bl fun _ => .d (Da.bl i)
theorem de_non {j : Nat} : DE X W (.Constant .none j pos) (xC (.d .none)) := de_c pe_non fun _ => .d Da.non
theorem de_str {x : Str} {j : Nat} : DE X W (.Constant (.str x) j pos) (xC (.d (.str x))) := de_c pe_str fun _ => .d (Da.str x)
/-- a module's constant that is data -/
theorem de_glob {x : Str} {v : V} {u : Value} {y : Y} (hg : Gl X x) (hm : X.mg x = some u) (r : RelV v u) (rv : ∀ G, RV X.K G v y) (hd : (x == ("__debug__" : Str)) = false := by decide) : DE X W (.Name x pos) (xC y) := de_c (pe_glob hg hm r hd) rv

/-! ### arguments -/
abbrev xNil : XA := fun _ m F _ => F [] m
abbrev xCons (ta : XE) (tr : XA) : XA := fun r m F P => ta r m (fun y m1 => tr r m1 (fun ys m2 => F (y :: ys) m2) P) P
theorem da_nil : DA X W [] xNil := ⟨fun {G r m σ H F P Q} rs rh hx cv _ => sa_of pa_nil (cv [] [] G m H (Ex.refl G) rh .nil hx)⟩
theorem da_cons {tr : XA} (ha : DE X W e ta) (hr : DA X W es tr) (hs : starEach (e :: es) X.env = (false, eval e X.env) :: starEach es X.env := by rfl) : DA X W (e :: es) (xCons ta tr) :=
  ⟨fun {G r m σ H F P Q} rs rh hx cv cx => sa_of (pa_cons se_pe sa_pa hs) (ha.run rs rh hx (fun v y G1 m1 H1 e1 rh1 rv1 h1 =>
    hr.run (rs.mono e1) rh1 h1 (fun vs ys G2 m2 H2 e2 rh2 rv2 h2 => cv (v :: vs) (y :: ys) G2 m2 H2 (e1.trans e2) rh2 (.cons (rv1.mono e2) rv2) h2) (cx.mono e1)) cx)⟩

/-! ### displays -/
def allD : List Y → Option (List PyData)
  | [] => some []
  | .d x :: r => (allD r).map (x :: ·)
  | _ :: _ => none
theorem allD_some : ∀ {ys : List Y} {ds : List PyData}, allD ys = some ds → ys = ds.map Y.d
  | [], ds, h => by cases h; rfl
  | .d x :: r, ds, h => by
    cases q : allD r with
    | none => rw [allD, q] at h; cases h
    | some es =>
      rw [allD, q] at h
      cases h
      rw [List.map_cons, ← allD_some q]
  | .l _ :: _, _, h => by cases h
  | .v _ :: _, _, h => by cases h
  | .r _ :: _, _, h => by cases h
theorem allD_map : ∀ ds : List PyData, allD (ds.map Y.d) = some ds
  | [] => rfl
  | d :: ds => by rw [List.map_cons, allD, allD_map ds]; rfl
/-- a new tuple: of data it is data -/
abbrev mkT (ys : List Y) (m : Mu) (F : Y → Mu → Prop) : Prop :=
  match allD ys with
  | some ds => F (.d (.tuple ds)) m
  | none => ∀ p, m p = none → F (.l p) (mu m p (.tup ys))
theorem mkT_ok {K : PySem.W.Frag} {G H : Hp} {m : Mu} {F : Y → Mu → Prop} {Q : VK} {vs : List V} {ys : List Y} {p : Addr} (rh : Rh K G m H) (rv : RVs K G vs ys) (hp : H p = none) (h : mkT ys m F) (cv : CvE K G F Q) : Q (.ref p) (upd H p (.tup vs)) := by
  unfold mkT at h
  cases q : allD ys with
  | some ds =>
    rw [q] at h
    have e := allD_some q
    subst e
    obtain ⟨e1, r1⟩ := rh.data (o := .tup vs) hp
    exact cv _ _ _ m _ e1 r1 (.d (.tup (.inl (.inl upd_same)) ((RVs.das rv).mono e1))) h
  | none =>
    rw [q] at h
    exact cv _ _ G _ _ (Ex.refl G) (rh.new hp (.tup rv)) (.l p) (h p (rh.free hp).2)
abbrev xTup (t : XA) : XE := fun r m F P => t r m (fun ys m1 => ys.length ≤ 10000 ∧ mkT ys m1 F) P
def szl : (10000 : Nat) ≤ sizeLine := by decide
theorem de_tup {x1} {t : XA} (h : DA X W es t) : DE X W (.Tuple es x1 pos) (xTup t) := ⟨fun {G r m σ H F P Q} rs rh hx cv cx =>
  se_of (pe_tup sa_pa) (h.run rs rh hx (fun vs ys G1 m1 H1 e1 rh1 rv1 h1 => ⟨by rw [rv1.length]; exact Nat.le_trans h1.1 szl, fun p hp => mkT_ok rh1 rv1 hp h1.2 (cv.mono e1)⟩) cx)⟩
/-- a new list as data; one that is to change -/
abbrev xLst (t : XA) : XE := fun r m F P => t r m (fun ys m1 => ys.length ≤ 10000 ∧ ∃ ds, ys = ds.map Y.d ∧ F (.d (.list ds)) m1) P
abbrev xLstM (t : XA) : XE := fun r m F P => t r m (fun ys m1 => ys.length ≤ 10000 ∧ ∀ p, m1 p = none → F (.l p) (mu m1 p (.lst ys))) P
theorem lstD_ok {K : PySem.W.Frag} {G H : Hp} {m : Mu} {F : Y → Mu → Prop} {Q : VK} {vs : List V} {ds : List PyData} {p : Addr} (rh : Rh K G m H) (rv : RVs K G vs (ds.map Y.d)) (hp : H p = none) (h : F (.d (.list ds)) m) (cv : CvE K G F Q) : Q (.ref p) (upd H p (.lst vs)) := by
  obtain ⟨e1, r1⟩ := rh.data (o := .lst vs) hp
  exact cv _ _ _ m _ e1 r1 (.d (.lst (.inl upd_same) ((RVs.das rv).mono e1))) h
theorem lstM_ok {K : PySem.W.Frag} {G H : Hp} {m : Mu} {F : Y → Mu → Prop} {Q : VK} {vs : List V} {ys : List Y} {p : Addr} (rh : Rh K G m H) (rv : RVs K G vs ys) (hp : H p = none) (h : ∀ p, m p = none → F (.l p) (mu m p (.lst ys))) (cv : CvE K G F Q) : Q (.ref p) (upd H p (.lst vs)) :=
  cv _ _ G _ _ (Ex.refl G) (rh.new hp (.lst rv)) (.l p) (h p (rh.free hp).2)
theorem de_lst {t : XA} (h : DA X W es t) : DE X W (.List es pos) (xLst t) := ⟨fun {G r m σ H F P Q} rs rh hx cv cx =>
  se_of (pe_lst sa_pa) (h.run rs rh hx (fun vs ys G1 m1 H1 e1 rh1 rv1 h1 => ⟨by rw [rv1.length]; exact Nat.le_trans h1.1 szl, fun p hp => by
    obtain ⟨_, ds, e2, f⟩ := h1
    subst e2
    exact lstD_ok rh1 rv1 hp f (cv.mono e1)⟩) cx)⟩
theorem de_lstM {t : XA} (h : DA X W es t) : DE X W (.List es pos) (xLstM t) := ⟨fun {G r m σ H F P Q} rs rh hx cv cx =>
  se_of (pe_lst sa_pa) (h.run rs rh hx (fun vs ys G1 m1 H1 e1 rh1 rv1 h1 => ⟨by rw [rv1.length]; exact Nat.le_trans h1.1 szl, fun p hp => lstM_ok rh1 rv1 hp h1.2 (cv.mono e1)⟩) cx)⟩

/-! ### two values -/
abbrev XR := Y → Y → Mu → (Y → Mu → Prop) → Prop
def OpD (X : Cx) (f : Value → Value → Sem Value) (xr : XR) : Prop := ∃ r : R2, OpR X f r ∧
  ∀ {G : Hp} {m : Mu} {H : Hp} {v w : V} {y z : Y} {F : Y → Mu → Prop} {Q : VK}, Rh X.K G m H → RV X.K G v y → RV X.K G w z → xr y z m F → CvE X.K G F Q → r v w H Q
abbrev xOp (xr : XR) (ta tb : XE) : XE := fun r m F P => ta r m (fun y m1 => tb r m1 (fun z m2 => xr y z m2 F) P) P
theorem OpD.or {f : Value → Value → Sem Value} {x x' : XR} (h : OpD X f x) (h' : OpD X f x') : OpD X f (fun y z m F => x y z m F ∨ x' y z m F) := by
  obtain ⟨r, h1, h2⟩ := h
  obtain ⟨r', h1', h2'⟩ := h'
  refine ⟨_, h1.or h1', fun {G m H v w y z F Q} rh rv rw hx cv => ?_⟩
  rcases hx with hx | hx
  · exact .inl (h2 rh rv rw hx cv)
  · exact .inr (h2' rh rv rw hx cv)
theorem OpD.imp {f : Value → Value → Sem Value} {x x' : XR} (h : OpD X f x) (i : ∀ y z m F, x' y z m F → x y z m F) : OpD X f x' := by
  obtain ⟨r, h1, h2⟩ := h
  exact ⟨r, h1, fun {G m H v w y z F Q} rh rv rw hx cv => h2 rh rv rw (i y z m F hx) cv⟩
theorem de_op {op : Operator} {xr : XR} (ho : OpD X (binaryOp op) xr) (ha : DE X W a ta) (hb : DE X W b tb) : DE X W (.BinOp a op b pos) (xOp xr ta tb) := ⟨fun {G r m σ H F P Q} rs rh hx cv cx => by
  obtain ⟨r2, h1, h2⟩ := ho
  exact se_of (pe_op h1 se_pe se_pe) (ha.run rs rh hx (fun v y G1 m1 H1 e1 rh1 rv1 q1 =>
    hb.run (rs.mono e1) rh1 q1 (fun w z G2 m2 H2 e2 rh2 rv2 q2 => h2 rh2 (rv1.mono e2) rv2 q2 (cv.mono (e1.trans e2))) (cx.mono e1)) cx)⟩
theorem de_cmp {op : CmpOp} {xr : XR} (ho : OpD X (compareOp op) xr) (ha : DE X W a ta) (hb : DE X W b tb) (hm : behindInMarks op b = false) : DE X W (.Compare a [op] [b] pos) (xOp xr ta tb) := ⟨fun {G r m σ H F P Q} rs rh hx cv cx => by
  obtain ⟨r2, h1, h2⟩ := ho
  exact se_of (pe_cmpR h1 se_pe se_pe hm) (ha.run rs rh hx (fun v y G1 m1 H1 e1 rh1 rv1 q1 =>
    hb.run (rs.mono e1) rh1 q1 (fun w z G2 m2 H2 e2 rh2 rv2 q2 => h2 rh2 (rv1.mono e2) rv2 q2 (cv.mono (e1.trans e2))) (cx.mono e1)) cx)⟩
/-- a value that is a truth value -/
abbrev xB (t : XE) : XT := fun r m F P => t r m (fun y m1 => ∃ k, y = .d (.bool k) ∧ F k m1) P
theorem dt_cmp {op : CmpOp} {xr : XR} (ho : OpD X (compareOp op) xr) (ha : DE X W a ta) (hb : DE X W b tb) (hm : behindInMarks op b = false) : DT X W (.Compare a [op] [b] pos) (xB (xOp xr ta tb)) := ⟨fun {G r m σ H F P Q} rs rh hx cv cx => by
  obtain ⟨r2, h1, h2⟩ := ho
  exact st_of' (pt_cmpR h1 se_pe se_pe hm) (ha.run rs rh hx (fun v y G1 m1 H1 e1 rh1 rv1 q1 =>
    hb.run (rs.mono e1) rh1 q1 (fun w z G2 m2 H2 e2 rh2 rv2 q2 => h2 rh2 (rv1.mono e2) rv2 q2 (fun u x G3 m3 H3 e3 rh3 rv3 ⟨k, ek, f⟩ => by
      subst ek
      cases rv3.da
      exact ⟨k, rfl, cv k G3 m3 H3 ((e1.trans e2).trans e3) rh3 f⟩)) (cx.mono e1)) cx)⟩

/-- whole numbers -/
abbrev xI2 (C : Int → Int → Prop) (g : Int → Int → PyData) : XR := fun y z m F =>
  match y, z with
  | .d (.int i), .d (.int j) => C i j ∧ F (.d (g i j)) m
  | _, _ => False
theorem opd_I {f : Value → Value → Sem Value} {C : Int → Int → Prop} {g : Int → Int → V} {g' : Int → Int → PyData} (h : OpR X f (rI C g)) (hg : ∀ G i j, Da X.K G (g i j) (g' i j)) : OpD X f (xI2 C g') := by
  refine ⟨_, h, fun {G m H v w y z F Q} rh rv rw hx cv => ?_⟩
  unfold xI2 at hx
  split at hx
  · rename_i i j
    cases rv.da; cases rw.da
    exact ⟨i, j, rfl, rfl, hx.1, cv.at rh (.d (hg G i j)) hx.2⟩
  · exact hx.elim
theorem opd_I0 {f : Value → Value → Sem Value} {g : Int → Int → V} {g' : Int → Int → PyData} (h : OpR X f (rI0 g)) (hg : ∀ G i j, Da X.K G (g i j) (g' i j)) : OpD X f (xI2 (fun _ _ => True) g') := by
  refine ⟨_, h, fun {G m H v w y z F Q} rh rv rw hx cv => ?_⟩
  unfold xI2 at hx
  split at hx
  · rename_i i j
    cases rv.da; cases rw.da
    exact ⟨i, j, rfl, rfl, cv.at rh (.d (hg G i j)) hx.2⟩
  · exact hx.elim
end
end Dl
/-! D3: operators, comparisons, subscripts, slices, built-in functions, on data. -/
namespace Dl
open PySem PySem.Spec PyProof.Rows L2 Evl

section
variable {X : Cx} {W : WX} {e a b c : Expr} {es : List Expr} {pos : Pos} {t ta tb tc : XE} {tt : XT} {K : PySem.W.Frag} {G H : Hp} {m : Mu}

/-! ### what a value is, from its data -/
theorem RV.int {w : V} {i : Int} (h : RV K G w (.d (.int i))) : w = .int i := by cases h.da; rfl
theorem RV.bl {w : V} {i : Bool} (h : RV K G w (.d (.bool i))) : w = .bl i := by cases h.da; rfl
theorem RV.str {w : V} {x : Str} (h : RV K G w (.d (.str x))) : w = .str x := by cases h.da; rfl
theorem RV.non {w : V} (h : RV K G w (.d .none)) : w = .non := by cases h.da; rfl
theorem RV.lst {w : V} {ds : List PyData} (h : RV K G w (.d (.list ds))) : ∃ p vs, w = .ref p ∧ Rd G p (.lst vs) ∧ DaAll K G vs ds := by
  cases h.da with
  | lst r q => exact ⟨_, _, rfl, r, q⟩
theorem RV.tup {w : V} {ds : List PyData} (h : RV K G w (.d (.tuple ds))) : ∃ p vs, w = .ref p ∧ SqT K G p vs ∧ DaAll K G vs ds := by
  cases h.da with
  | tup r q => exact ⟨_, _, rfl, r, q⟩
theorem RV.loc {w : V} {p : Addr} (h : RV K G w (.l p)) : w = .ref p := by cases h; rfl
theorem RV.rd {w : V} {ds : List PyData} (h : RV K G w (.r ds)) : ∃ p vs, w = .ref p ∧ SqL K G p vs ∧ DaAll K G vs ds := by
  cases h with
  | r r q => exact ⟨_, _, rfl, r, q⟩
theorem rd_sub {p : Addr} {u : HO} (rh : Rh K G m H) (h : Rd G p u) : Rd H p u := ex_rd rh.sub h
/-- a sequence at p: its items -/
abbrev SqY (m : Mu) : Y → List Y → Prop
  | .d (.list ds), ys => ys = ds.map Y.d
  | .d (.tuple ds), ys => ys = ds.map Y.d
  | .r ds, ys => ys = ds.map Y.d
  | .l p, ys => m p = some (.lst ys) ∨ m p = some (.tup ys)
  | _, _ => False
theorem sqY_ok {w : V} {y : Y} {ys : List Y} (rh : Rh K G m H) (rv : RV K G w y) (h : SqY m y ys) : ∃ p vs, w = .ref p ∧ (SqL K H p vs ∨ SqT K H p vs) ∧ RVs K G vs ys := by
  cases rv with
  | d q =>
    cases q with
    | lst r q => cases h; exact ⟨_, _, rfl, .inl (.inl (rd_sub rh r)), q.rvs⟩
    | tup r q => cases h; exact ⟨_, _, rfl, .inr (ex_t rh.sub r), q.rvs⟩
    | _ => exact h.elim
  | l p =>
    rcases h with h | h
    · obtain ⟨ws, e, q⟩ := rh.lst h
      exact ⟨p, ws, rfl, .inl (SqL.of e), q⟩
    · obtain ⟨ws, e, q⟩ := rh.tup h
      exact ⟨p, ws, rfl, .inr (SqT.of e), q⟩
  | v x => exact h.elim
  | r r q => cases h; exact ⟨_, _, rfl, .inl (ex_l rh.sub r), q.rvs⟩

/-! ### + -/
abbrev xAddT : XR := fun y z m F => ∃ ds es, y = .d (.tuple ds) ∧ z = .d (.tuple es) ∧ ds.length + es.length ≤ 10000 ∧ F (.d (.tuple (ds ++ es))) m
theorem opd_addT : OpD X (binaryOp .Add) xAddT := by
  refine ⟨_, op_catA, fun {G m H v w y z F Q} rh rv rw hx cv => ?_⟩
  obtain ⟨ds, es, rfl, rfl, hz, f⟩ := hx
  obtain ⟨p, vs, rfl, s1, q1⟩ := rv.tup
  obtain ⟨p2, vs2, rfl, s2, q2⟩ := rw.tup
  refine ⟨p, p2, vs, vs2, rfl, rfl, ex_t rh.sub s1, ex_t rh.sub s2, by rw [q1.length, q2.length]; exact Nat.le_trans hz szl, fun e => ?_, fun e1 e2 => ?_, fun e1 e2 q hq => ?_⟩
  · subst e
    cases q1
    exact cv.at rh rw f
  · subst e2
    cases q2
    rw [List.append_nil] at f
    exact cv.at rh rv f
  · obtain ⟨e3, r3⟩ := rh.data (o := .tup (vs ++ vs2)) hq
    exact cv _ _ _ m _ e3 r3 (.d (.tup (.inl (.inl upd_same)) ((q1.app q2).mono e3))) f
/-- list + list, a new list that is data -/
def rCatD : R2 := fun x y H Q => ∃ l b xs zs, x = .ref l ∧ y = .ref b ∧ Rd H l (.lst xs) ∧ Rd H b (.lst zs) ∧ xs.length + zs.length ≤ sizeLine ∧ ∀ p, H p = none → Q (.ref p) (upd H p (.lst (xs ++ zs)))
theorem rd_lst {pins : List (Addr × Obj)} {σ : L2.St} {s : Shared} {l : Addr} {xs : List V} (I : Inv X pins σ H s) (h : Rd H l (.lst xs)) :
    xs.length ≤ sizeLine ∧ ∃ (its : List Value) (n : Nat), Vals xs its ∧ s.heap.get? l = some { cls := .type "list", data := .seq its.toArray n } := h.ok I.hok
theorem opr_catD : OpR X (binaryOp .Add) rCatD := by
  intro pins s σ H x y v u Q I rx ry h
  obtain ⟨l, b, xs, zs, rfl, rfl, hH, hB, hz, q⟩ := h
  cases rx
  cases ry
  obtain ⟨z, its, n, r, e⟩ := rd_lst I hH
  obtain ⟨z2, its2, n2, r2, e2⟩ := rd_lst I hB
  have l1 := r.length
  have l2 := r2.length
  refine PySem.P.add_list e e2 ?_ (by rw [List.size_toArray, List.size_toArray, ← l1, ← l2]; exact hz)
  rw [show its.toArray ++ its2.toArray = (its ++ its2).toArray by simp]
  exact ⟨.ref _, _, I.lnew (t' := s.toks) (r.append r2) (by rw [List.length_append]; exact hz), rfl, q _ I.fresh⟩
/-- the lists' items -/
abbrev LsY (m : Mu) : Y → List Y → Prop
  | .d (.list ds), ys => ys = ds.map Y.d
  | .l p, ys => m p = some (.lst ys)
  | _, _ => False
theorem lsY_ok {w : V} {y : Y} {ys : List Y} (rh : Rh K G m H) (rv : RV K G w y) (h : LsY m y ys) : ∃ p vs, w = .ref p ∧ Rd H p (.lst vs) ∧ RVs K G vs ys := by
  cases rv with
  | d q =>
    cases q with
    | lst r q => cases h; exact ⟨_, _, rfl, rd_sub rh r, q.rvs⟩
    | _ => exact h.elim
  | l p =>
    obtain ⟨ws, e, q⟩ := rh.lst h
    exact ⟨p, ws, rfl, .inl e, q⟩
  | v x => exact h.elim
  | r r q => exact h.elim
abbrev xAddL : XR := fun y z m F => ∃ ys zs ds, LsY m y ys ∧ LsY m z zs ∧ ys.length + zs.length ≤ 10000 ∧ ys ++ zs = ds.map Y.d ∧ F (.d (.list ds)) m
theorem opd_addL : OpD X (binaryOp .Add) xAddL := by
  refine ⟨_, opr_catD, fun {G m H v w y z F Q} rh rv rw hx cv => ?_⟩
  obtain ⟨ys, zs, ds, h1, h2, hz, ee, f⟩ := hx
  obtain ⟨p, vs, rfl, s1, q1⟩ := lsY_ok rh rv h1
  obtain ⟨p2, vs2, rfl, s2, q2⟩ := lsY_ok rh rw h2
  refine ⟨p, p2, vs, vs2, rfl, rfl, s1, s2, by rw [q1.length, q2.length]; exact Nat.le_trans hz szl, fun q hq => ?_⟩
  have q3 := q1.app q2
  rw [ee] at q3
  exact lstD_ok rh q3 hq f cv
abbrev xAddS : XR := fun y z m F => ∃ i j, y = .d (.str i) ∧ z = .d (.str j) ∧ i.length + j.length ≤ 10000 ∧ F (.d (.str (i ++ j))) m
theorem opd_addS : OpD X (binaryOp .Add) xAddS := by
  refine ⟨_, op_add_str, fun {G m H v w y z F Q} rh rv rw hx cv => ?_⟩
  obtain ⟨i, j, rfl, rfl, hz, f⟩ := hx
  cases rv.str; cases rw.str
  exact ⟨i, j, rfl, rfl, Nat.le_trans hz szl, cv.at rh (.d (.str _)) f⟩
abbrev xAdd : XR := fun y z m F =>
  match y, z with
  | .d (.int i), .d (.int j) => F (.d (.int (i + j))) m
  | .d (.tuple a), .d (.tuple b) => a.length + b.length ≤ 10000 ∧ F (.d (.tuple (a ++ b))) m
  | .d (.str a), .d (.str b) => a.length + b.length ≤ 10000 ∧ F (.d (.str (a ++ b))) m
  | y, z => ∃ ys zs ds, LsY m y ys ∧ LsY m z zs ∧ ys.length + zs.length ≤ 10000 ∧ ys ++ zs = ds.map Y.d ∧ F (.d (.list ds)) m
theorem opd_add : OpD X (binaryOp .Add) xAdd := by
  refine ((((opd_I0 op_add fun _ _ _ => Da.int _).or opd_addT).or opd_addS).or opd_addL).imp fun y z m F h => ?_
  unfold xAdd at h
  split at h
  · exact .inl (.inl (.inl ⟨trivial, h⟩))
  · exact .inl (.inl (.inr ⟨_, _, rfl, rfl, h.1, h.2⟩))
  · exact .inl (.inr ⟨_, _, rfl, rfl, h.1, h.2⟩)
  · exact .inr h
abbrev xSub : XR := fun y z m F => match y, z with
  | .d (.int i), .d (.int j) => F (.d (.int (i - j))) m
  | _, _ => False
theorem opd_sub : OpD X (binaryOp .Sub) xSub := (opd_I0 op_sub fun _ _ _ => Da.int _).imp fun y z m F h => by
  unfold xSub at h; split at h
  · exact ⟨trivial, h⟩
  · exact h.elim
abbrev xMul : XR := fun y z m F => match y, z with
  | .d (.int i), .d (.int j) => CMul i j ∧ F (.d (.int (i * j))) m
  | _, _ => False
theorem opd_mul : OpD X (binaryOp .Mult) xMul := (opd_I op_mul fun _ _ _ => Da.int _).imp fun y z m F h => by
  unfold xMul at h; split at h
  · exact h
  · exact h.elim
abbrev xFdiv : XR := fun y z m F => match y, z with
  | .d (.int i), .d (.int j) => (0 < j ∧ j < 1073741824) ∧ F (.d (.int (i / j))) m
  | _, _ => False
theorem opd_fdiv : OpD X (binaryOp .FloorDiv) xFdiv := (opd_I op_fdiv fun _ _ _ => Da.int _).imp fun y z m F h => by
  unfold xFdiv at h; split at h
  · exact h
  · exact h.elim
abbrev xMod : XR := fun y z m F => match y, z with
  | .d (.int i), .d (.int j) => 0 < j ∧ F (.d (.int (i % j))) m
  | _, _ => False
theorem opd_mod : OpD X (binaryOp .Mod) xMod := (opd_I op_mod fun _ _ _ => Da.int _).imp fun y z m F h => by
  unfold xMod at h; split at h
  · exact h
  · exact h.elim
abbrev xPow : XR := fun y z m F => match y, z with
  | .d (.int i), .d (.int j) => CPow i j ∧ F (.d (.int (i ^ j.toNat))) m
  | _, _ => False
theorem opd_pow : OpD X (binaryOp .Pow) xPow := (opd_I op_pow fun _ _ _ => Da.int _).imp fun y z m F h => by
  unfold xPow at h; split at h
  · exact h
  · exact h.elim

/-! ### comparisons -/
abbrev xCi (p : Int → Int → Bool) : XR := fun y z m F => match y, z with
  | .d (.int i), .d (.int j) => F (.d (.bool (p i j))) m
  | _, _ => False
theorem xci_imp {p : Int → Int → Bool} {y z : Y} {m : Mu} {F : Y → Mu → Prop} (h : xCi p y z m F) : xI2 (fun _ _ => True) (fun i j => .bool (p i j)) y z m F := by
  unfold xCi at h; split at h
  · exact ⟨trivial, h⟩
  · exact h.elim
theorem opd_lt : OpD X (compareOp .Lt) (xCi fun i j => decide (i < j)) := (opd_I0 op_lt fun _ _ _ => Da.bl _).imp fun _ _ _ _ h => xci_imp h
theorem opd_le : OpD X (compareOp .LtE) (xCi fun i j => decide (i ≤ j)) := (opd_I0 op_le fun _ _ _ => Da.bl _).imp fun _ _ _ _ h => xci_imp h
theorem opd_gt : OpD X (compareOp .Gt) (xCi fun i j => decide (j < i)) := (opd_I0 op_gt fun _ _ _ => Da.bl _).imp fun _ _ _ _ h => xci_imp h
theorem opd_ge : OpD X (compareOp .GtE) (xCi fun i j => decide (j ≤ i)) := (opd_I0 op_ge fun _ _ _ => Da.bl _).imp fun _ _ _ _ h => xci_imp h
/-- == of plain values -/
def sEq : PyData → PyData → Option Bool
  | .none, .none => some true | .none, .int _ => some false | .int _, .none => some false | .none, .bool _ => some false | .bool _, .none => some false | .none, .str _ => some false | .str _, .none => some false
  | .int i, .int j => some (decide (i = j)) | .bool i, .bool j => some (decide (i = j)) | .str i, .str j => some (decide (i = j))
  | .int _, .str _ => some false | .str _, .int _ => some false | .bool _, .str _ => some false | .str _, .bool _ => some false
  | _, _ => none
theorem sEq_ok {d d' : PyData} {k : Bool} {v w : V} (h : sEq d d' = some k) (hv : Da K G v d) (hw : Da K G w d') : scal v w = true ∧ decide (v = w) = k := by
  unfold sEq at h
  split at h <;> first
    | (cases h; cases hv; cases hw; exact ⟨rfl, by simp⟩)
    | cases h
mutual
theorem Da.dp : ∀ {v : V} {d : PyData}, d.canLay0 = true → Da K H v d → Dp K H v d
  | _, _, _, .non => .non
  | _, _, _, .bl b => .bl b
  | _, _, _, .int i => .int i
  | _, _, _, .str x => .str x
  | _, _, h, .lst r q => .lst (.inl r) (DaAll.dp (by simpa [PyData.canLay0] using h) q)
  | _, _, h, .tup r q => .tup r (DaAll.dp (by simpa [PyData.canLay0] using h) q)
  | _, _, h, .dic _ _ _ _ => by simp [PyData.canLay0] at h
theorem DaAll.dp : ∀ {vs : List V} {ds : List PyData}, PyData.canLayAll0 ds = true → DaAll K H vs ds → DpAll K H vs ds
  | _, _, _, .nil => .nil
  | _, _, h, .cons q t => by
    simp [PyData.canLayAll0] at h
    exact .cons (Da.dp h.1 q) (DaAll.dp h.2 t)
end
abbrev xEq : XR := fun y z m F => match y, z with
  | .d a, .d b => (match sEq a b with
    | some k => F (.d (.bool k)) m
    | none => SeqAt.shaped a = true ∧ SeqAt.shaped b = true ∧ F (.d (.bool (PyData.eqv a b))) m)
  | _, _ => False
abbrev xNe : XR := fun y z m F => match y, z with
  | .d a, .d b => (match sEq a b with
    | some k => F (.d (.bool !k)) m
    | none => SeqAt.shaped a = true ∧ SeqAt.shaped b = true ∧ F (.d (.bool !(PyData.eqv a b))) m)
  | _, _ => False
theorem shaped_lay {d : PyData} (h : SeqAt.shaped d = true) : d.canLay0 = true := by
  unfold SeqAt.shaped at h
  simp at h
  exact h.1
theorem opd_eq (hu : X.A.units + 64 < cLine) : OpD X (compareOp .Eq) xEq := by
  refine ⟨_, op_eq.or (op_eqD hu), fun {G m H v w y z F Q} rh rv rw hx cv => ?_⟩
  unfold xEq at hx
  split at hx
  · rename_i d d'
    cases q : sEq d d' with
    | some k =>
      rw [q] at hx
      obtain ⟨h1, h2⟩ := sEq_ok q rv.da rw.da
      exact .inl ⟨h1, by rw [h2]; exact cv.at rh (.d (.bl k)) hx⟩
    | none =>
      rw [q] at hx
      obtain ⟨h1, h2, h3⟩ := hx
      exact .inr ⟨d, d', (rv.da.mono rh.sub).dp (shaped_lay h1), (rw.da.mono rh.sub).dp (shaped_lay h2), h1, h2, cv.at rh (.d (.bl _)) h3⟩
  · exact hx.elim
theorem opd_ne (hu : X.A.units + 64 < cLine) : OpD X (compareOp .NotEq) xNe := by
  refine ⟨_, op_ne.or (op_neD hu), fun {G m H v w y z F Q} rh rv rw hx cv => ?_⟩
  unfold xNe at hx
  split at hx
  · rename_i d d'
    cases q : sEq d d' with
    | some k =>
      rw [q] at hx
      obtain ⟨h1, h2⟩ := sEq_ok q rv.da rw.da
      exact .inl ⟨h1, by rw [h2]; exact cv.at rh (.d (.bl _)) hx⟩
    | none =>
      rw [q] at hx
      obtain ⟨h1, h2, h3⟩ := hx
      exact .inr ⟨d, d', (rv.da.mono rh.sub).dp (shaped_lay h1), (rw.da.mono rh.sub).dp (shaped_lay h2), h1, h2, cv.at rh (.d (.bl _)) h3⟩
  · exact hx.elim
/-- is None -/
def isN : Y → Bool
  | .d .none => true
  | .v .non => true
  | _ => false
theorem isN_ok {v : V} {y : Y} (rv : RV K G v y) : decide (v = .non) = isN y := by
  cases rv with
  | d q => cases q <;> rfl
  | l p => rfl
  | v => cases v <;> rfl
  | r _ _ => rfl
abbrev xIsN : XR := fun y z m F => z = .d .none ∧ F (.d (.bool (isN y))) m
abbrev xNotN : XR := fun y z m F => z = .d .none ∧ F (.d (.bool !(isN y))) m
theorem opd_isN : OpD X (compareOp .Is) xIsN := ⟨_, op_isN, fun {G m H v w y z F Q} rh rv rw hx cv => by
  obtain ⟨rfl, f⟩ := hx
  exact ⟨rw.non, by rw [isN_ok rv]; exact cv.at rh (.d (.bl _)) f⟩⟩
theorem opd_notN : OpD X (compareOp .IsNot) xNotN := ⟨_, op_notN, fun {G m H v w y z F Q} rh rv rw hx cv => by
  obtain ⟨rfl, f⟩ := hx
  exact ⟨rw.non, by rw [isN_ok rv]; exact cv.at rh (.d (.bl _)) f⟩⟩
/-- x is True -/
abbrev xIsB : XR := fun y z m F => ∃ i j, y = .d (.bool i) ∧ z = .d (.bool j) ∧ F (.d (.bool (decide (i = j)))) m
theorem opd_isB : OpD X (compareOp .Is) xIsB := ⟨_, op_isBl, fun {G m H v w y z F Q} rh rv rw hx cv => by
  obtain ⟨i, j, rfl, rfl, f⟩ := hx
  exact ⟨i, j, rv.bl, rw.bl, cv.at rh (.d (.bl _)) f⟩⟩
abbrev xNotB : XR := fun y z m F => ∃ i j, y = .d (.bool i) ∧ z = .d (.bool j) ∧ F (.d (.bool !(decide (i = j)))) m
theorem opd_notB : OpD X (compareOp .IsNot) xNotB := ⟨_, op_notBl, fun {G m H v w y z F Q} rh rv rw hx cv => by
  obtain ⟨i, j, rfl, rfl, f⟩ := hx
  exact ⟨i, j, rv.bl, rw.bl, cv.at rh (.d (.bl _)) f⟩⟩

/-! ### in -/
def flatD : PyData → Bool
  | .none | .bool _ | .int _ | .str _ => true
  | _ => false
def toV : PyData → V
  | .none => .non | .bool b => .bl b | .int i => .int i | .str x => .str x | _ => .non
theorem toV_ok {d : PyData} {v : V} (f : flatD d = true) (h : Da K G v d) : v = toV d := by
  cases h <;> first | rfl | cases f
theorem flat_ok {d : PyData} {v : V} (f : flatD d = true) (h : Da K G v d) : flatV v = true := by
  cases h <;> first | rfl | cases f
theorem flat_all : ∀ {ds : List PyData} {vs : List V}, ds.all flatD = true → DaAll K G vs ds → vs.all flatV = true ∧ vs = ds.map toV
  | _, _, _, .nil => ⟨rfl, rfl⟩
  | _, _, f, .cons h t => by
    rw [List.all_cons, Bool.and_eq_true] at f
    obtain ⟨h1, h2⟩ := flat_all f.2 t
    exact ⟨by rw [List.all_cons, flat_ok f.1 h, h1]; rfl, by rw [List.map_cons, toV_ok f.1 h, h2]⟩
def inD (d : PyData) (ds : List PyData) : Bool := inV (toV d) (ds.map toV)
abbrev xIn (neg : Bool) : XR := fun y z m F => ∃ d ds, y = .d d ∧ SqY m z (ds.map Y.d) ∧ flatD d = true ∧ ds.all flatD = true ∧ F (.d (.bool (if neg then !inD d ds else inD d ds))) m
theorem xin_ok {neg : Bool} {v w : V} {y z : Y} {F : Y → Mu → Prop} {Q : VK} (rh : Rh K G m H) (rv : RV K G v y) (rw : RV K G w z) (hx : xIn neg y z m F) (cv : CvE K G F Q) : rIn K neg v w H Q := by
  obtain ⟨d, ds, rfl, h1, h2, h3, f⟩ := hx
  obtain ⟨p, vs, rfl, s1, q1⟩ := sqY_ok rh rw h1
  obtain ⟨e1, e2⟩ := flat_all h3 (RVs.das q1)
  refine ⟨p, vs, rfl, s1, flat_ok h2 rv.da, e1, ?_⟩
  rw [toV_ok h2 rv.da, e2]
  exact cv.at rh (.d (.bl _)) f
theorem opd_in : OpD X (compareOp .In) (xIn false) := ⟨_, op_in_seq, fun rh rv rw hx cv => xin_ok rh rv rw hx cv⟩
theorem opd_notin : OpD X (compareOp .NotIn) (xIn true) := ⟨_, op_notIn_seq, fun rh rv rw hx cv => xin_ok rh rv rw hx cv⟩

/-! ### subscripts -/
theorem atI_rvs {vs : List V} {ys : List Y} {i : Int} {y : Y} (q : RVs K G vs ys) (h : atI ys i = some y) : ∃ v, atI vs i = some v ∧ RV K G v y := by
  unfold atI at h ⊢
  rw [q.length]
  cases e : ixN ys.length i with
  | none => rw [e] at h; cases h
  | some j =>
    rw [e] at h
    exact RVs.get q h
abbrev xIx : XR := fun y z m F => ∃ i ys x, z = .d (.int i) ∧ SqY m y ys ∧ atI ys i = some x ∧ F x m
theorem ixr : IxR X (fun x y H Q => rIxL X.K x y H Q ∨ rIxT X.K x y H Q) := ix_list.or ix_tup
theorem de_ix (ha : DE X W a ta) (hb : DE X W b tb) (hs : PlainIx b) : DE X W (.Subscript a b pos) (xOp xIx ta tb) := ⟨fun {G r m σ H F P Q} rs rh hx cv cx =>
  se_of (pe_ix ixr se_pe se_pe hs) (ha.run rs rh hx (fun v y G1 m1 H1 e1 rh1 rv1 q1 =>
    hb.run (rs.mono e1) rh1 q1 (fun w z G2 m2 H2 e2 rh2 rv2 q2 => by
      obtain ⟨i, ys, x, rfl, hs2, hat, f⟩ := q2
      obtain ⟨p, vs, rfl, s1, q1⟩ := sqY_ok rh2 (rv1.mono e2) hs2
      obtain ⟨u, hu, ru⟩ := atI_rvs q1 hat
      rcases s1 with s1 | s1
      · exact .inl ⟨p, vs, i, u, rfl, rv2.int, s1, hu, cv u x G2 m2 H2 (e1.trans e2) rh2 ru f⟩
      · exact .inr ⟨p, vs, i, u, rfl, rv2.int, s1, hu, cv u x G2 m2 H2 (e1.trans e2) rh2 ru f⟩) (cx.mono e1)) cx)⟩

/-! ### slices -/
abbrev XO := Ro → Mu → (Option Int → Mu → Prop) → XP → Prop
def SO (X : Cx) (o : Option Expr) : TO := fun σ H Q => ∀ (pins : List (Addr × Obj)) (s : Shared), Inv X pins σ H s → wpAny (model X.prog X.w) X.A (evalPart o X.env) (fun u s' => ∃ o H', Inv X pins σ H' s' ∧ IsPart u o ∧ Q o H') X.xe s
theorem so_po {o : Option Expr} : PO X o (SO X o) := ⟨fun pins s _ _ _ I h => h pins s I⟩
def CvO (K : PySem.W.Frag) (G : Hp) (F : Option Int → Mu → Prop) (Q : Option Int → Hp → Prop) : Prop := ∀ b G' m' H', Ex G G' → Rh K G' m' H' → F b m' → Q b H'
structure DO (X : Cx) (W : WX) (o : Option Expr) (t : XO) : Prop where
  run : ∀ {G : Hp} {r : Ro} {m : Mu} {σ : L2.St} {H : Hp} {F : Option Int → Mu → Prop} {P : XP} {Q : Option Int → Hp → Prop}, Rs X.K G σ r → Rh X.K G m H → t r m F P → CvO X.K G F Q → CvX X.K G P (WEx W σ) → SO X o σ H Q
abbrev xoN : XO := fun _ m F _ => F none m
abbrev xoS (t : XE) : XO := fun r m F P => t r m (fun y m1 => ∃ i, y = .d (.int i) ∧ F (some i) m1) P
theorem do_none : DO X W none xoN := ⟨fun {G r m σ H F P Q} rs rh hx cv _ => fun pins s I => po_none.run pins s σ H Q I (cv none G m H (Ex.refl G) rh hx)⟩
theorem do_some (h : DE X W e t) : DO X W (some e) (xoS t) := ⟨fun {G r m σ H F P Q} rs rh hx cv cx => fun pins s I => (po_some se_pe).run pins s σ H Q I (h.run rs rh hx (fun v y G1 m1 H1 e1 rh1 rv1 q1 => by
  obtain ⟨i, rfl, f⟩ := q1
  exact ⟨i, rv1.int, cv (some i) G1 m1 H1 e1 rh1 f⟩) cx)⟩
def cutD {α : Type} (xs : List α) (lo hi : Option Int) : List α := (xs.drop (HT.sIx xs.length 0 lo)).take (HT.sIx xs.length xs.length hi - HT.sIx xs.length 0 lo)
theorem cut_rvs {vs : List V} {ys : List Y} (q : RVs K G vs ys) (lo hi : Option Int) : RVs K G (cutV vs lo hi) (cutD ys lo hi) := by
  unfold cutV cutD
  rw [q.length]
  exact RVs.take _ (RVs.drop _ q)
theorem cut_map {α β : Type} (f : α → β) (xs : List α) (lo hi : Option Int) : cutD (xs.map f) lo hi = (cutD xs lo hi).map f := by
  unfold cutD
  rw [List.length_map, ← List.map_drop, ← List.map_take]
abbrev XSR := Y → Option Int → Option Int → Mu → (Y → Mu → Prop) → Prop
def SlD (X : Cx) (xr : XSR) : Prop := ∃ r, SlR X r ∧ ∀ {G : Hp} {m : Mu} {H : Hp} {v : V} {y : Y} {lo hi : Option Int} {F : Y → Mu → Prop} {Q : VK}, Rh X.K G m H → RV X.K G v y → xr y lo hi m F → CvE X.K G F Q → r v lo hi H Q
abbrev xSl (xr : XSR) (te : XE) (tl th : XO) : XE := fun r m F P => te r m (fun y m1 => tl r m1 (fun lo m2 => th r m2 (fun hi m3 => xr y lo hi m3 F) P) P) P
theorem de_sl {lo hi : Option Expr} {tl th : XO} {p2 : Pos} {xr : XSR} (hr : SlD X xr) (he : DE X W e t) (hl : DO X W lo tl) (hh : DO X W hi th) : DE X W (.Subscript e (.Slice lo hi none p2) pos) (xSl xr t tl th) := ⟨fun {G r m σ H F P Q} rs rh hx cv cx => by
  obtain ⟨r2, h1, h2⟩ := hr
  exact se_of (pe_slice h1 se_pe so_po so_po) (he.run rs rh hx (fun v y G1 m1 H1 e1 rh1 rv1 q1 =>
    hl.run (rs.mono e1) rh1 q1 (fun a G2 m2 H2 e2 rh2 q2 =>
      hh.run (rs.mono (e1.trans e2)) rh2 q2 (fun b G3 m3 H3 e3 rh3 q3 => h2 rh3 (rv1.mono (e2.trans e3)) q3 (cv.mono ((e1.trans e2).trans e3))) (cx.mono (e1.trans e2))) (cx.mono e1)) cx)⟩
/-- t[a:b] of a tuple that is data -/
abbrev xSlT : XSR := fun y lo hi m F => ∃ ds, y = .d (.tuple ds) ∧ F (.d (.tuple (cutD ds lo hi))) m
/-- xs[a:b]: a new list, as data, or one that may change -/
abbrev xSlL : XSR := fun y lo hi m F => ∃ ys ds, ((∃ es, y = .d (.list es) ∧ ys = es.map Y.d) ∨ (∃ p, y = .l p ∧ m p = some (.lst ys)) ∨ ∃ es, y = .r es ∧ ys = es.map Y.d) ∧ cutD ys lo hi = ds.map Y.d ∧ F (.d (.list ds)) m
theorem sld_L : SlD X xSlL := ⟨_, sl_list, fun {G m H v y lo hi F Q} rh rv hx cv => by
  obtain ⟨ys, ds, hy, ec, f⟩ := hx
  have z : ∃ p vs, v = .ref p ∧ SqL X.K H p vs ∧ RVs X.K G vs ys := by
    rcases hy with ⟨es, rfl, rfl⟩ | ⟨p, rfl, hm⟩ | ⟨es, rfl, rfl⟩
    · obtain ⟨p, vs, rfl, s1, q1⟩ := rv.lst
      exact ⟨p, vs, rfl, .inl (rd_sub rh s1), q1.rvs⟩
    · obtain ⟨ws, e, q⟩ := rh.lst hm
      cases rv.loc
      exact ⟨p, ws, rfl, SqL.of e, q⟩
    · obtain ⟨p, vs, rfl, s1, q1⟩ := rv.rd
      exact ⟨p, vs, rfl, ex_l rh.sub s1, q1.rvs⟩
  obtain ⟨p, vs, rfl, s1, q1⟩ := z
  refine ⟨p, vs, rfl, s1, fun q hq => ?_⟩
  have q3 := cut_rvs q1 lo hi
  rw [ec] at q3
  exact lstD_ok rh q3 hq f cv⟩
end
end Dl
namespace Dl
open PySem PySem.Spec PyProof.Rows L2 Evl
section
variable {X : Cx} {K : PySem.W.Frag} {G H : Hp} {m : Mu}
theorem sld_T : SlD X xSlT := ⟨_, sl_tupA, fun {G m H v y lo hi F Q} rh rv hx cv => by
  obtain ⟨ds, rfl, f⟩ := hx
  obtain ⟨p, vs, rfl, s1, q1⟩ := rv.tup
  refine ⟨p, vs, rfl, ex_t rh.sub s1, fun hw => ?_, fun _ q hq => ?_⟩
  · have e : cutD ds lo hi = ds := by
      unfold cutD
      rw [← q1.length, hw.1, hw.2]
      simp [q1.length]
    rw [e] at f
    exact cv.at rh rv f
  · obtain ⟨e3, r3⟩ := rh.data (o := .tup (cutV vs lo hi)) hq
    have q3 := RVs.das (show RVs X.K G (cutV vs lo hi) ((cutD ds lo hi).map Y.d) by rw [← cut_map]; exact cut_rvs q1.rvs lo hi)
    exact cv _ _ _ m _ e3 r3 (.d (.tup (.inl (.inl upd_same)) (q3.mono e3))) f⟩
end
end Dl
/-! D4: what a def promises on data; its calls. -/
namespace Dl
open PySem PySem.Spec PyProof.Rows L2 Evl

abbrev DSp := List Y → Mu → (Y → Mu → Prop) → XP → Prop
/-- the promise for the hand layer's values -/
def cz (K : PySem.W.Frag) (d : DSp) (vs : List V) (H : Hp) (Q : VK) (E : XK) : Prop :=
  ∃ (G : Hp) (m : Mu) (ys : List Y) (F : Y → Mu → Prop) (P : XP), Rh K G m H ∧ RVs K G vs ys ∧ d ys m F P ∧ CvE K G F Q ∧ CvX K G P E
/-- the def at f keeps the promise d, called where no repr is under way -/
structure FnD (pr : Program) (w : World) (K : PySem.W.Frag) (mg : Str → Option Value) (base : Heap) (k : Nat) (f : Addr) (fd : FuncData) (ps : List Str) (d : DSp) : Prop where
  len : ∀ ys m F P, d ys m F P → ys.length = ps.length
  run : ∀ (A : Around) (outer : List Env) (s : Shared) (H : Hp) (args : Args) (us : List Value) (vs : List V) (Q : VK) (E : XK), A.guards = some [] → Room k A → Env0 pr w K mg base A outer s H →
    BindsTo s fd args (ps.zip us) → Vals vs us → cz K d vs H Q E → codeAny (model pr w) A (.call (.ref f) args) (CR (L2.CX pr w) outer pr w H s Q E) s
section
variable {pr : Program} {w : World} {K : PySem.W.Frag} {mg : Str → Option Value} {base : Heap} {f : Addr} {fd : FuncData} {ps : List Str} {d d' : DSp} {j k : Nat}
theorem FnD.mono (F : FnD pr w K mg base j f fd ps d) (h : j ≤ k) : FnD pr w K mg base k f fd ps d :=
  ⟨F.len, fun A outer s H args us vs Q E hg hr => F.run A outer s H args us vs Q E hg (hr.mono h)⟩
theorem FnD.imp (F : FnD pr w K mg base k f fd ps d) (h : ∀ ys m F P, d' ys m F P → d ys m F P) : FnD pr w K mg base k f fd ps d' :=
  ⟨fun ys m F' P q => F.len ys m F' P (h _ _ _ _ q), fun A outer s H args us vs Q E hg hr he hb hv ⟨G, m, ys, F', P, a, b, c, e⟩ => F.run A outer s H args us vs Q E hg hr he hb hv ⟨G, m, ys, F', P, a, b, h _ _ _ _ c, e⟩⟩
end

section
variable {X : Cx} {W : WX} {k : Nat} {f C : Addr} {fd : FuncData} {ps : List Str} {d : DSp} {dvs : List V} {ds : List Value} {dys : List Y} {x mn : Str} {p pos apos : Pos} {e o : Expr} {es : List Expr} {ta : XE} {t : XA}
theorem run_d {pins : List (Addr × Obj)} {σ : L2.St} {H : Hp} {s : Shared} {Q : VK} {us : List Value} {vs : List V} (F : FnD X.prog X.w X.K X.mg X.base k f fd ps d) (hr : Room k X.A) (hg : X.A.guards = some []) (hb : Binds X.K fd ps ds) (hd : Vals dvs ds)
    (tk : Takes X W) (I : Inv X pins σ H s) (r : Vals vs us) (h : cz X.K d (vs ++ dvs) H Q (WEx W σ)) : wpAny (model X.prog X.w) X.A (call (.ref f) us) (EP X pins σ Q) X.xe s := by
  have rr : Vals (vs ++ dvs) (us ++ ds) := r.append hd
  have hl : (us ++ ds).length = ps.length := by
    obtain ⟨G, m, ys, F', P, _, q2, q3, _⟩ := id h
    rw [← rr.length, q2.length]
    exact F.len _ _ _ _ q3
  refine wpAny_call (codeAny_mono (F.run X.A X.stack s H ⟨us, []⟩ (us ++ ds) (vs ++ dvs) Q (WEx W σ) hg hr I.env0 (hb s us I.kIn hl) rr h) fun z s' hq => ?_)
  match z, hq with
  | .error e, hq => exact passAt tk σ pins H s e s' I hq
  | .ok (.ret u), hq => exact I.after hq
  | .ok .next, hq => exact False.elim hq
  | .ok .brk, hq => exact False.elim hq
  | .ok .cont, hq => exact False.elim hq

/-- f(..): the written arguments, then the defaults -/
abbrev xCall (d : DSp) (dys : List Y) (t : XA) : XE := fun r m F P => t r m (fun ys m1 => d (ys ++ dys) m1 F P) P
theorem de_call (F : FnD X.prog X.w X.K X.mg X.base k f fd ps d) (hr : Room k X.A) (hgd : X.A.guards = some []) (tk : Takes X W) (hg : Gl X x) (hm : X.mg x = some (.ref f)) (hk : PySem.W.keepIn X.K (.ref f) = true) (hb : Binds X.K fd ps ds) (hd : Vals dvs ds)
    (hy : ∀ G, RVs X.K G dvs dys) (ha : DA X W (e :: es) t) (hdb : (x == ("__debug__" : Str)) = false := by decide) (he : starEach (e :: es) X.env = (false, eval e X.env) :: starEach es X.env := by rfl)
    (hpl : (backTo pos (starEach es X.env)).any (·.1) = false := by rfl) : DE X W (.Call (.Name x p) (e :: es) [] pos) (xCall d dys t) := ⟨fun {G r m σ H F' P Q} rs rh hx cv cx => fun pins s I => by
  refine wpAny_Call_Name_kw (ld_glob I hg hm ?_ hdb)
  have ha' := ha.run (Q := fun vs H1 => cz X.K d (vs ++ dvs) H1 Q (WEx W σ)) rs rh hx (fun vs ys G1 m1 H1 e1 rh1 rv1 q1 => ⟨G1, m1, ys ++ dys, F', P, rh1, rv1.app (hy G1), q1, cv.mono e1, cx.mono e1⟩) cx
  exact PySem.W.callWith_K (h₀ := X.base) I.ok.mod.kin hk (thn (ha' pos pins s I) fun us s1 ⟨vs, H1, I1, r1, q⟩ => ⟨I1.kIn, run_d F hr hgd hb hd tk I1 r1 q⟩) he hpl⟩
theorem de_call0 (F : FnD X.prog X.w X.K X.mg X.base k f fd ps d) (hr : Room k X.A) (hgd : X.A.guards = some []) (tk : Takes X W) (hg : Gl X x) (hm : X.mg x = some (.ref f)) (hk : PySem.W.keepIn X.K (.ref f) = true) (hb : Binds X.K fd ps ds) (hd : Vals dvs ds)
    (hy : ∀ G, RVs X.K G dvs dys) (hdb : (x == ("__debug__" : Str)) = false := by decide) : DE X W (.Call (.Name x p) [] [] pos) (xCall d dys xNil) := ⟨fun {G r m σ H F' P Q} rs rh hx cv cx => fun pins s I => by
  refine wpAny_Call_Name_kw (ld_glob I hg hm ?_ hdb)
  exact PySem.W.callWith_K0 I.kIn hk (run_d (us := []) F hr hgd hb hd tk I .nil ⟨G, m, dys, F', P, rh, hy G, hx, cv, cx⟩)⟩

/-- o.m(..) of an instance of the class at C -/
abbrev xMeth (C : Addr) (mn : Str) (d : DSp) (dys : List Y) (ta : XE) (t : XA) : XE := fun r m F P => ta r m (fun y m1 => ∃ a dx gs, y = .l a ∧ m1 a = some (.ins C dx gs) ∧ gs.lookup mn = none ∧ t r m1 (fun ys m2 => d (.l a :: (ys ++ dys)) m2 F P) P) P
theorem de_meth {pl : Sem Bool} (he : DE X W o ta) (c : Cls X.K C) (hm : Meth X.K C mn f) (F : FnD X.prog X.w X.K X.mg X.base k f fd ps d) (hr : Room k X.A) (hgd : X.A.guards = some []) (tk : Takes X W) (hb : Binds X.K fd ps ds) (hd : Vals dvs ds)
    (hy : ∀ G, RVs X.K G dvs dys) (ha : DA X W (e :: es) t) (hst : starEach (e :: es) X.env = (false, eval e X.env) :: starEach es X.env := by rfl) (hpl : (backTo pos (starEach es X.env)).any (·.1) = false := by rfl)
    (ht : eval (.Call (.Attribute o mn apos) (e :: es) [] pos) X.env = (eval o X.env >>= fun ov => standAt apos.atName >>= fun _ => holding [ov] (getMethod ov mn pl) >>= fun z =>
      callWith pos z.1 z.2 (backTo pos (starEach (e :: es) X.env)) (backToKw pos (keywordEach [] X.env))) := by rfl) :
    DE X W (.Call (.Attribute o mn apos) (e :: es) [] pos) (xMeth C mn d dys ta t) := ⟨fun {G r m σ H F' P Q} rs rh hx cv cx => fun pins s I => by
  have he' := he.run (Q := fun v H1 => ∃ a dx fs, v = V.ref a ∧ H1 a = some (.ins C dx fs) ∧ fs.lookup mn = none ∧ SA X (e :: es) σ H1 fun vs H2 => cz X.K d (.ref a :: (vs ++ dvs)) H2 Q (WEx W σ)) rs rh hx (fun v y G1 m1 H1 e1 rh1 rv1 q1 => by
    obtain ⟨a, dx, gs, rfl, hma, hl, q⟩ := q1
    obtain ⟨fs, hH, hf⟩ := rh1.ins hma
    cases rv1.loc
    exact ⟨a, dx, fs, rfl, hH, RF.lookup_none hf hl, ha.run (rs.mono e1) rh1 q (fun vs ys G2 m2 H2 e2 rh2 rv2 q2 => ⟨G2, m2, .l a :: (ys ++ dys), F', P, rh2, .cons (.l a) (rv2.app (hy G2)), q2, cv.mono (e1.trans e2), cx.mono (e1.trans e2)⟩) (cx.mono e1)⟩) cx
  refine PySem.W.methodCall_KW (pl := pl) (thn (he' pins s I) fun u s1 ⟨v, H1, I1, rx, a, dx, fs, ex, ea, l, q⟩ => ?_) ht
  subst ex
  obtain rfl : u = Value.ref a := rx
  refine getmeth_ok I1 ea c hm l ?_
  exact PySem.W.callWith_K (first := [.ref a]) (h₀ := X.base) I.ok.mod.kin hm.kp (thn (q pos pins s1 I1) fun us s2 ⟨vs, H2, I2, r2, q2⟩ => ⟨I2.kIn, run_d (us := .ref a :: us) (vs := .ref a :: vs) F hr hgd hb hd tk I2 (.cons rfl r2) q2⟩) hst hpl⟩
theorem de_meth0 {pl : Sem Bool} (he : DE X W o ta) (c : Cls X.K C) (hm : Meth X.K C mn f) (F : FnD X.prog X.w X.K X.mg X.base k f fd ps d) (hr : Room k X.A) (hgd : X.A.guards = some []) (tk : Takes X W) (hb : Binds X.K fd ps ds) (hd : Vals dvs ds)
    (hy : ∀ G, RVs X.K G dvs dys) 
    (ht : eval (.Call (.Attribute o mn apos) [] [] pos) X.env = (eval o X.env >>= fun ov => standAt apos.atName >>= fun _ => holding [ov] (getMethod ov mn pl) >>= fun z =>
      callWith pos z.1 z.2 (backTo pos (starEach [] X.env)) (backToKw pos (keywordEach [] X.env))) := by rfl) :
    DE X W (.Call (.Attribute o mn apos) [] [] pos) (xMeth C mn d dys ta xNil) := ⟨fun {G r m σ H F' P Q} rs rh hx cv cx => fun pins s I => by
  have he' := he.run (Q := fun v H1 => ∃ a dx fs, v = V.ref a ∧ H1 a = some (.ins C dx fs) ∧ fs.lookup mn = none ∧ cz X.K d (.ref a :: dvs) H1 Q (WEx W σ)) rs rh hx (fun v y G1 m1 H1 e1 rh1 rv1 q1 => by
    obtain ⟨a, dx, gs, rfl, hma, hl, q⟩ := q1
    obtain ⟨fs, hH, hf⟩ := rh1.ins hma
    cases rv1.loc
    exact ⟨a, dx, fs, rfl, hH, RF.lookup_none hf hl, ⟨G1, m1, .l a :: dys, F', P, rh1, .cons (.l a) (hy G1), q, cv.mono e1, cx.mono e1⟩⟩) cx
  refine PySem.W.methodCall_KW (pl := pl) (thn (he' pins s I) fun u s1 ⟨v, H1, I1, rx, a, dx, fs, ex, ea, l, q⟩ => ?_) ht
  subst ex
  obtain rfl : u = Value.ref a := rx
  refine getmeth_ok I1 ea c hm l ?_
  exact PySem.W.callWith_K0 (first := [.ref a]) I1.kIn hm.kp (run_d (us := [.ref a]) (vs := [.ref a]) F hr hgd hb hd tk I1 (.cons rfl .nil) q)⟩

/-- C(..): a new instance, then __init__ -/
abbrev xMake (C : Addr) (d : DSp) (dys : List Y) (t : XA) : XE := fun r m F P => t r m (fun ys m1 => ∀ a dx, m1 a = none → d (.l a :: (ys ++ dys)) (mu m1 a (.ins C dx [])) (fun y m2 => y = .d .none ∧ F (.l a) m2) P) P
theorem make_guards {A : Around} {us : List Value} {kw : List (Str × Value)} (h : A.guards = some []) : (A.under (.builtin "type.__call__" ⟨.ref C :: us, kw⟩)).guards = some [] := by
  first
    | exact h
    | simp [Around.under, Code.guards, Code.isGuard, guardIds, pushGuards, h]
theorem de_make (M : Mk X.K C f) (F : FnD X.prog X.w X.K X.mg X.base k f fd ps d) (hr : Room (k + 1) X.A) (hgd : X.A.guards = some []) (tk : Takes X W) (hg : Gl X x) (hm : X.mg x = some (.ref C)) (hb : Binds X.K fd ps ds) (hd : Vals dvs ds)
    (hy : ∀ G, RVs X.K G dvs dys) (ha : DA X W (e :: es) t) (hdb : (x == ("__debug__" : Str)) = false := by decide) (he : starEach (e :: es) X.env = (false, eval e X.env) :: starEach es X.env := by rfl)
    (hpl : (backTo pos (starEach es X.env)).any (·.1) = false := by rfl) : DE X W (.Call (.Name x p) (e :: es) [] pos) (xMake C d dys t) := ⟨fun {G r m σ H F' P Q} rs rh hx cv cx => fun pins s I => by
  refine wpAny_Call_Name_kw (ld_glob I hg hm ?_ hdb)
  have ha' := ha.run (Q := fun vs H1 => ∀ a dx, H1 a = none → H1 dx = none → dx ≠ a → cz X.K d (.ref a :: (vs ++ dvs)) (upd (upd H1 dx (.own a)) a (.ins C dx [])) (fun v H2 => v = .non ∧ Q (.ref a) H2) (WEx W σ)) rs rh hx (fun vs ys G1 m1 H1 e1 rh1 rv1 q1 => fun a dx na ndx ne => by
    have f := rh1.free na
    have r1 : Rh X.K G1 m1 (upd H1 dx (.own a)) := ⟨fun b u q => by rw [upd_ne (ne_of_none (rh1.sub b u q) ndx)]; exact rh1.sub b u q, rh1.off, fun b u q => by
      obtain ⟨z, z1, z2⟩ := rh1.mem b u q
      exact ⟨z, by rw [upd_ne (ne_of_none z1 ndx)]; exact z1, z2⟩, rh1.tb.keep (Ex.refl _) (fun _ _ z => z) (fun _ _ z => z) (fun b o e _ => by rw [upd_ne (ne_of_none e ndx)]; exact e), rh1.nt⟩
    have r2 : Rh X.K G1 (mu m1 a (.ins C dx [])) (upd (upd H1 dx (.own a)) a (.ins C dx [])) := r1.new (by rw [upd_ne (Ne.symm ne)]; exact na) (.ins .nil)
    exact ⟨G1, _, .l a :: (ys ++ dys), fun y m2 => y = .d .none ∧ F' (.l a) m2, P, r2, .cons (.l a) (rv1.app (hy G1)), q1 a dx f.2,
      fun v y G2 m2 H2 e2 rh2 rv2 ⟨q2, q3⟩ => by subst q2; exact ⟨rv2.non, cv _ _ G2 m2 H2 (e1.trans e2) rh2 (.l a) q3⟩, cx.mono e1⟩) cx
  refine PySem.W.callWith_K (h₀ := X.base) I.ok.mod.kin M.kp (thn (ha' pos pins s I) fun us s1 ⟨vs, H1, I1, r1, q⟩ => ⟨I1.kIn, ?_⟩) he hpl
  have hq := q (s1.heap.objs.size + 1) s1.heap.objs.size (I1.hok.fresh (Nat.le_succ _)) (I1.hok.fresh (Nat.le_refl _)) (Nat.ne_of_lt (Nat.lt_succ_self _))
  have J := Inv.made (C := C) I1
  have rr : Vals (V.ref (s1.heap.objs.size + 1) :: (vs ++ dvs)) (Value.ref (s1.heap.objs.size + 1) :: (us ++ ds)) := .cons rfl (r1.append hd)
  have hl : (Value.ref (s1.heap.objs.size + 1) :: us ++ ds).length = ps.length := by
    obtain ⟨_, _, ys, _, _, _, z2, z3, _⟩ := id hq
    have z4 := F.len _ _ _ _ z3
    rw [← z2.length, rr.length] at z4
    exact z4
  refine wpAny_call (make_map (f := f) I1.kIn M.makes M.init (beq_iff_eq.mp M.fn) (codeAny_mono (F.run _ X.stack _ _ ⟨Value.ref (s1.heap.objs.size + 1) :: us, []⟩ (Value.ref (s1.heap.objs.size + 1) :: (us ++ ds)) _ _ (WEx W σ)
    (make_guards hgd) (hr.make C us []) (J.env0.make C us []) (hb _ (Value.ref (s1.heap.objs.size + 1) :: us) J.kIn hl) rr hq) fun z s' hz => ?_))
  match z, hz with
  | .error e, hz => exact passAt tk σ pins _ _ e s' J hz
  | .ok (.ret u), hz =>
    obtain ⟨v, H', I3, rv, ev, q3⟩ := J.after hz
    subst ev
    exact ⟨rv, ⟨V.ref (s1.heap.objs.size + 1), H', I3, rfl, q3⟩⟩
  | .ok .next, hz => exact False.elim hz
  | .ok .brk, hz => exact False.elim hz
  | .ok .cont, hz => exact False.elim hz⟩

/-! ### attributes -/
abbrev xFld (K : PySem.W.Frag) (ta : XE) (f : Str) : XE := fun r m F P => ta r m (fun y m1 => ∃ a C dx gs z, y = .l a ∧ m1 a = some (.ins C dx gs) ∧ Cls K C ∧ NoAttr K C f ∧ gs.lookup f = some z ∧ F z m1) P
theorem de_fld {fn : Str} (he : DE X W e ta) (hb : attributeBase e fn X.env (eval e X.env) = eval e X.env) : DE X W (.Attribute e fn pos) (xFld X.K ta fn) := ⟨fun {G r m σ H F P Q} rs rh hx cv cx =>
  se_of (pe_fld se_pe hb) (he.run rs rh hx (fun v y G1 m1 H1 e1 rh1 rv1 q1 => by
    obtain ⟨a, C, dx, gs, z, rfl, hm, hc, hn, hl, f⟩ := q1
    obtain ⟨fs, hH, hf⟩ := rh1.ins hm
    obtain ⟨u, hu, ru⟩ := RF.lookup hf hl
    exact ⟨a, C, dx, fs, u, rv1.loc, hH, hc, hn, hu, cv u z G1 m1 H1 e1 rh1 ru f⟩) cx)⟩
/-- a constant of the class -/
abbrev xCon (K : PySem.W.Frag) (ta : XE) (f : Str) : XE := fun r m F P => ta r m (fun y m1 => ∃ a C dx gs v u z, y = .l a ∧ m1 a = some (.ins C dx gs) ∧ Cls K C ∧ Con K C f v u ∧ gs.lookup f = none ∧ (∀ G, RV K G v z) ∧ F z m1) P
theorem de_con {fn : Str} (he : DE X W e ta) (hb : attributeBase e fn X.env (eval e X.env) = eval e X.env) : DE X W (.Attribute e fn pos) (xCon X.K ta fn) := ⟨fun {G r m σ H F P Q} rs rh hx cv cx =>
  se_of (pe_con se_pe hb) (he.run rs rh hx (fun v y G1 m1 H1 e1 rh1 rv1 q1 => by
    obtain ⟨a, C, dx, gs, v', u, z, rfl, hm, hc, hn, hl, hz, f⟩ := q1
    obtain ⟨fs, hH, hf⟩ := rh1.ins hm
    exact ⟨a, C, dx, fs, v', u, rv1.loc, hH, hc, hn, RF.lookup_none hf hl, cv v' z G1 m1 H1 e1 rh1 (hz G1) f⟩) cx)⟩
/-- a property -/
abbrev xProp (C : Addr) (d : DSp) (ta : XE) : XE := fun r m F P => ta r m (fun y m1 => ∃ a dx gs, y = .l a ∧ m1 a = some (.ins C dx gs) ∧ d [.l a] m1 F (fun _ _ _ => False)) P
theorem de_prop {pg : Addr} {fn : Str} (he : DE X W e ta) (c : Cls X.K C) (hp : PropOf X.K C fn pg f) (F : FnD X.prog X.w X.K X.mg X.base k f fd ps d) (hr : Room (k + 1) X.A) (hgd : X.A.guards = some []) (hb : Binds X.K fd ps [])
    (hab : attributeBase e fn X.env (eval e X.env) = eval e X.env) : DE X W (.Attribute e fn pos) (xProp C d ta) := ⟨fun {G r m σ H F' P Q} rs rh hx cv cx => fun pins s I => by
  have he' := he.run (Q := fun v H1 => ∃ a dx fs, v = V.ref a ∧ H1 a = some (.ins C dx fs) ∧ cz X.K d [.ref a] H1 Q E0) rs rh hx (fun v y G1 m1 H1 e1 rh1 rv1 q1 => by
    obtain ⟨a, dx, gs, rfl, hm, q⟩ := q1
    obtain ⟨fs, hH, hf⟩ := rh1.ins hm
    exact ⟨a, dx, fs, rv1.loc, hH, ⟨G1, m1, [.l a], F', _, rh1, .cons (.l a) .nil, q, cv.mono e1, fun _ _ _ _ _ _ _ _ _ z => z⟩⟩) cx
  refine attr_of hab (thn (he' pins s I) fun u s1 ⟨v, H1, I1, rx, a, dx, fs, ex, ea, q⟩ => ?_)
  subst ex
  obtain rfl : u = Value.ref a := rx
  obtain ⟨mA, O, _, _, _, _⟩ := ins_get I1.hok ea
  obtain ⟨od, J, _⟩ := O.look
  obtain ⟨rest, hrec⟩ := hp.rec_
  have I2 := I1.tok (s1.toks + 1)
  have hl : ([Value.ref a] ++ []).length = ps.length := by
    obtain ⟨_, _, ys, _, _, _, z2, z3, _⟩ := id q
    rw [← F.len _ _ _ _ z3, ← z2.length]
    rfl
  have hcs : (PySem.W.clsIn X.K C).isSome = true := by
    obtain ⟨cd, hc, _⟩ := PySem.W.any_some c.hd
    rw [hc]; rfl
  refine PySem.W.get_bind I1.kIn J (PySem.W.plainGet_of (c.get fn)).1 (PySem.W.findObj_data hcs hp.at_ hp.get hp.tak) (PySem.W.plainGet_of (c.get fn)).2 (wpAny_call (PySem.W.prop_get (s := { s1 with toks := s1.toks + 1 }) I1.kIn hrec ?_))
  refine codeAny_mono (F.run X.A.in1 X.stack { s1 with toks := s1.toks + 1 } H1 ⟨[.ref a], []⟩ [.ref a] [.ref a] Q E0 hgd hr.in1 I2.env0.in1 (hb _ [.ref a] I2.kIn hl) (.cons rfl .nil) q) fun z s' hz => ?_
  match z, hz with
  | .error er, hz => exact False.elim (passL (X := X.nox) pins σ H1 { s1 with toks := s1.toks + 1 } er s' (I2.wish _) hz)
  | .ok (.ret u), hz =>
    obtain ⟨v, H', I3, rv, q3⟩ := I2.after hz
    show wpAny _ _ (handedOut u) _ _ _
    rw [PySem.W.handedOut_of (handed_of rv)]
    exact wpAny_pure ⟨v, H', I3, rv, q3⟩
  | .ok .next, hz => exact False.elim hz
  | .ok .brk, hz => exact False.elim hz
  | .ok .cont, hz => exact False.elim hz⟩
end
end Dl
/-! D5: tests, built-in calls and methods. -/
namespace Dl
open PySem PySem.Spec PyProof.Rows L2 Evl

section
variable {X : Cx} {W : WX} {e a b c : Expr} {es rest : List Expr} {pos : Pos} {t ta tb tc : XE} {tt tA tB : XT} {K : PySem.W.Frag} {G H : Hp} {m : Mu}
/-! ### tests -/
abbrev xAnd (t u : XT) : XT := fun r m F P => t r m (fun k m1 => if k = true then u r m1 F P else F false m1) P
abbrev xOr (t u : XT) : XT := fun r m F P => t r m (fun k m1 => if k = true then F true m1 else u r m1 F P) P
abbrev xNot (t : XT) : XT := fun r m F P => t r m (fun k m1 => F (!k) m1) P
theorem DW.dt (h : DW X W e tt) : DT X W e tt := ⟨fun rs rh hx cv cx => fun pins s I => h.run rs rh hx cv cx _ pins s I⟩
theorem dw_and1 (h : DT X W a tt) : DW X W (.BoolOp .And [a] pos) tt := ⟨fun rs rh hx cv cx => sw_of (pw_and1 st_pt) (h.run rs rh hx cv cx)⟩
theorem dw_or1 (h : DT X W a tt) : DW X W (.BoolOp .Or [a] pos) tt := ⟨fun rs rh hx cv cx => sw_of (pw_or1 st_pt) (h.run rs rh hx cv cx)⟩
theorem dw_and (h1 : DT X W a tA) (h2 : DW X W (.BoolOp .And (b :: rest) pos) tB) : DW X W (.BoolOp .And (a :: b :: rest) pos) (xAnd tA tB) := ⟨fun {G r m σ H F P Q} rs rh hx cv cx =>
  sw_of (pw_and st_pt sw_pw) (h1.run rs rh hx (fun k G1 m1 H1 e1 rh1 q => by
    cases k with
    | true => exact h2.run (rs.mono e1) rh1 q (cv.mono e1) (cx.mono e1)
    | false => exact cv false G1 m1 H1 e1 rh1 q) cx)⟩
theorem dw_or (h1 : DT X W a tA) (h2 : DW X W (.BoolOp .Or (b :: rest) pos) tB) : DW X W (.BoolOp .Or (a :: b :: rest) pos) (xOr tA tB) := ⟨fun {G r m σ H F P Q} rs rh hx cv cx =>
  sw_of (pw_or st_pt sw_pw) (h1.run rs rh hx (fun k G1 m1 H1 e1 rh1 q => by
    cases k with
    | false => exact h2.run (rs.mono e1) rh1 q (cv.mono e1) (cx.mono e1)
    | true => exact cv true G1 m1 H1 e1 rh1 q) cx)⟩
theorem dt_not (h : DT X W a tA) : DT X W (.UnaryOp .Not a pos) (xNot tA) := ⟨fun {G r m σ H F P Q} rs rh hx cv cx =>
  st_of' (pt_not st_pt) (h.run rs rh hx (fun k G1 m1 H1 e1 rh1 q => cv (!k) G1 m1 H1 e1 rh1 q) cx)⟩
/-- truth -/
def truD : PyData → Option Bool
  | .none => some false | .bool b => some b | .int i => some (i != 0) | .str x => if x.length ≤ 10000 then some ((x.length : Int) != 0) else none
  | .list ds => some (!ds.isEmpty) | .tuple ds => some (!ds.isEmpty) | .dict es => none
def TruY (m : Mu) : Y → Bool → Prop
  | .d d, k => truD d = some k
  | .l p, k => ∃ ys, (m p = some (.lst ys) ∨ m p = some (.tup ys)) ∧ k = !ys.isEmpty
  | .r ds, k => k = !ds.isEmpty
  | .v _, _ => False
theorem emp_rvs {vs : List V} {ys : List Y} (q : RVs K G vs ys) : vs.isEmpty = ys.isEmpty := by cases q <;> rfl
theorem emp_das {vs : List V} {ds : List PyData} (q : DaAll K G vs ds) : vs.isEmpty = ds.isEmpty := by cases q <;> rfl
theorem truY_ok {v : V} {y : Y} {k : Bool} (rh : Rh K G m H) (rv : RV K G v y) (h : TruY m y k) : TruV K v H k := by
  cases rv with
  | d q =>
    cases q with
    | non => cases h; rfl
    | bl b => cases h; rfl
    | int i => cases h; rfl
    | str x =>
      have h' : (if x.length ≤ 10000 then some ((x.length : Int) != 0) else none) = some k := h
      by_cases z : x.length ≤ 10000
      · rw [if_pos z] at h'; cases h'; exact ⟨Nat.le_trans z szl, rfl⟩
      · rw [if_neg z] at h'; cases h'
    | lst r q => cases h; exact .inl ⟨_, .inl (rd_sub rh r), by rw [emp_das q]⟩
    | tup r q => cases h; exact .inr (.inl ⟨_, ex_t rh.sub r, by rw [emp_das q]⟩)
    | dic _ _ _ _ => cases h
  | l p =>
    obtain ⟨ys, h | h, e⟩ := h
    · obtain ⟨ws, e1, q⟩ := rh.lst h
      exact .inl ⟨ws, SqL.of e1, by rw [e, emp_rvs q]⟩
    · obtain ⟨ws, e1, q⟩ := rh.tup h
      exact .inr (.inl ⟨ws, SqT.of e1, by rw [e, emp_rvs q]⟩)
  | v x => exact h.elim
  | r s q => exact .inl ⟨_, ex_l rh.sub s, by rw [emp_das q]; exact h⟩
abbrev xTru (t : XE) : XT := fun r m F P => t r m (fun y m1 => ∃ k, TruY m1 y k ∧ F k m1) P
theorem dt_tru (h : DE X W e t) (he : ∀ wh, isTrue e X.env wh = (do let v ← wh; standAt e.pos; holding [v] (truthy v)) := by intro _; rfl) : DT X W e (xTru t) := ⟨fun {G r m σ H F P Q} rs rh hx cv cx =>
  st_of' (pt_truth se_pe he) (h.run rs rh hx (fun v y G1 m1 H1 e1 rh1 rv1 ⟨k, q1, q2⟩ => ⟨k, truY_ok rh1 rv1 q1, cv k G1 m1 H1 e1 rh1 q2⟩) cx)⟩
/-- .. as values -/
abbrev xAndV (ta tb : XE) : XE := fun r m F P => ta r m (fun y m1 => ∃ k, y = .d (.bool k) ∧ if k = true then tb r m1 F P else F (.d (.bool false)) m1) P
abbrev xOrV (ta tb : XE) : XE := fun r m F P => ta r m (fun y m1 => ∃ k, y = .d (.bool k) ∧ if k = true then F (.d (.bool true)) m1 else tb r m1 F P) P
abbrev xNotV (t : XE) : XE := fun r m F P => t r m (fun y m1 => ∃ k, TruY m1 y k ∧ F (.d (.bool (!k))) m1) P
theorem de_one {op} (h : DE X W a ta) : DE X W (.BoolOp op [a] pos) ta := ⟨fun rs rh hx cv cx => se_of (pe_one se_pe) (h.run rs rh hx cv cx)⟩
theorem de_and (h1 : DE X W a ta) (h2 : DE X W (.BoolOp .And (b :: rest) pos) tb) : DE X W (.BoolOp .And (a :: b :: rest) pos) (xAndV ta tb) := ⟨fun {G r m σ H F P Q} rs rh hx cv cx =>
  se_of (pe_and se_pe se_pe) (h1.run rs rh hx (fun v y G1 m1 H1 e1 rh1 rv1 ⟨k, q1, q2⟩ => by
    subst q1
    refine ⟨k, rv1.bl, ?_⟩
    cases k with
    | true => exact h2.run (rs.mono e1) rh1 q2 (cv.mono e1) (cx.mono e1)
    | false => exact cv _ _ G1 m1 H1 e1 rh1 (.d (.bl false)) q2) cx)⟩
theorem de_or (h1 : DE X W a ta) (h2 : DE X W (.BoolOp .Or (b :: rest) pos) tb) : DE X W (.BoolOp .Or (a :: b :: rest) pos) (xOrV ta tb) := ⟨fun {G r m σ H F P Q} rs rh hx cv cx =>
  se_of (pe_or se_pe se_pe) (h1.run rs rh hx (fun v y G1 m1 H1 e1 rh1 rv1 ⟨k, q1, q2⟩ => by
    subst q1
    refine ⟨k, rv1.bl, ?_⟩
    cases k with
    | false => exact h2.run (rs.mono e1) rh1 q2 (cv.mono e1) (cx.mono e1)
    | true => exact cv _ _ G1 m1 H1 e1 rh1 (.d (.bl true)) q2) cx)⟩
theorem de_not (h : DE X W a ta) : DE X W (.UnaryOp .Not a pos) (xNotV ta) := ⟨fun {G r m σ H F P Q} rs rh hx cv cx =>
  se_of (pe_notT se_pe) (h.run rs rh hx (fun v y G1 m1 H1 e1 rh1 rv1 ⟨k, q1, q2⟩ => ⟨k, truY_ok rh1 rv1 q1, cv _ _ G1 m1 H1 e1 rh1 (.d (.bl _)) q2⟩) cx)⟩
abbrev xIf (t : XT) (ta tb : XE) : XE := fun r m F P => t r m (fun k m1 => if k = true then ta r m1 F P else tb r m1 F P) P
theorem de_if (hc : DT X W c tt) (h1 : DE X W a ta) (h2 : DE X W b tb) : DE X W (.IfExp c a b pos) (xIf tt ta tb) := ⟨fun {G r m σ H F P Q} rs rh hx cv cx =>
  se_of (pe_ifExp st_pt se_pe se_pe) (hc.run rs rh hx (fun k G1 m1 H1 e1 rh1 q => by
    cases k with
    | true => exact h1.run (rs.mono e1) rh1 q (cv.mono e1) (cx.mono e1)
    | false => exact h2.run (rs.mono e1) rh1 q (cv.mono e1) (cx.mono e1)) cx)⟩
/-- a < b < c -/
abbrev xChain (x x' : XR) (ta tb tc : XE) : XE := fun r m F P => ta r m (fun y m1 => tb r m1 (fun z m2 => x y z m2 (fun u m3 => ∃ k, u = .d (.bool k) ∧ if k = true then tc r m3 (fun w m4 => x' z w m4 F) P else F (.d (.bool false)) m3)) P) P
theorem de_chain {op op' : CmpOp} {x x' : XR} (ho : OpD X (compareOp op) x) (ho' : OpD X (compareOp op') x') (h1 : DE X W a ta) (h2 : DE X W b tb) (h3 : DE X W c tc) (hm : lastMarks [op, op'] [b, c] = false := by with_unfolding_all rfl) :
    DE X W (.Compare a [op, op'] [b, c] pos) (xChain x x' ta tb tc) := ⟨fun {G r m σ H F P Q} rs rh hx cv cx => by
  obtain ⟨r1, g1, g2⟩ := ho
  obtain ⟨r2, g3, g4⟩ := ho'
  refine se_of (pe_chain g1 g3 se_pe se_pe se_pe hm) (h1.run rs rh hx (fun v y G1 m1 H1 e1 rh1 rv1 q1 =>
    h2.run (rs.mono e1) rh1 q1 (fun w z G2 m2 H2 e2 rh2 rv2 q2 => g2 rh2 (rv1.mono e2) rv2 q2 fun u x3 G3 m3 H3 e3 rh3 rv3 ⟨k, q3, q4⟩ => by
      subst q3
      refine ⟨k, rv3.bl, ?_⟩
      cases k with
      | true => exact h3.run (rs.mono ((e1.trans e2).trans e3)) rh3 q4 (fun w' x4 G4 m4 H4 e4 rh4 rv4 q5 => g4 rh4 (rv2.mono (e3.trans e4)) rv4 q5 (cv.mono (((e1.trans e2).trans e3).trans e4))) (cx.mono ((e1.trans e2).trans e3))
      | false => exact cv _ _ G3 m3 H3 ((e1.trans e2).trans e3) rh3 (.d (.bl false)) q4) (cx.mono e1)) cx)⟩

/-! ### built-in functions -/
abbrev XRC := List Y → Mu → (Y → Mu → Prop) → Prop
def CallD (X : Cx) (f : Value) (xr : XRC) : Prop := ∃ r, CallR X f r ∧
  ∀ {G : Hp} {m : Mu} {H : Hp} {vs : List V} {ys : List Y} {F : Y → Mu → Prop} {Q : VK}, Rh X.K G m H → RVs X.K G vs ys → xr ys m F → CvE X.K G F Q → r vs H Q
abbrev xCB (xr : XRC) (t : XA) : XE := fun r m F P => t r m (fun ys m1 => xr ys m1 F) P
theorem CallD.imp {f : Value} {x x' : XRC} (h : CallD X f x) (i : ∀ ys m F, x' ys m F → x ys m F) : CallD X f x' := by
  obtain ⟨r, h1, h2⟩ := h
  exact ⟨r, h1, fun rh rv hx cv => h2 rh rv (i _ _ _ hx) cv⟩
theorem CallD.or {f : Value} {x x' : XRC} (h : CallD X f x) (h' : CallD X f x') : CallD X f (fun ys m F => x ys m F ∨ x' ys m F) := by
  obtain ⟨r, h1, h2⟩ := h
  obtain ⟨r', h1', h2'⟩ := h'
  refine ⟨_, CallR.or h1 h1', fun rh rv hx cv => ?_⟩
  rcases hx with hx | hx
  · exact .inl (h2 rh rv hx cv)
  · exact .inr (h2' rh rv hx cv)
theorem de_cb {x : Str} {p : Pos} {id : String} {xr : XRC} {tx : XA} (hc : CallD X (.builtin id) xr) (hg : Gl X x) (hm : X.mg x = none) (hv : bootBuiltins x = some (.builtin id)) (ha : DA X W (e :: es) tx) (hn : x ≠ "__name__" := by decide) (hdb : (x == ("__debug__" : Str)) = false := by decide)
    (he : starEach (e :: es) X.env = (false, eval e X.env) :: starEach es X.env := by rfl) (hpl : (backTo pos (starEach es X.env)).any (·.1) = false := by rfl) : DE X W (.Call (.Name x p) (e :: es) [] pos) (xCB xr tx) := ⟨fun {G r m σ H F P Q} rs rh hx cv cx => by
  obtain ⟨r1, g1, g2⟩ := hc
  exact se_of (pe_callB g1 hg hm hv sa_pa hn hdb he hpl) (ha.run rs rh hx (fun vs ys G1 m1 H1 e1 rh1 rv1 q1 => g2 rh1 rv1 q1 (cv.mono e1)) cx)⟩
theorem de_cty {x : Str} {p : Pos} {T : String} {xr : XRC} {tx : XA} (hc : CallD X (.type T) xr) (hg : Gl X x) (hm : X.mg x = none) (hv : bootBuiltins x = some (.type T)) (ha : DA X W (e :: es) tx) (hn : x ≠ "__name__" := by decide) (hdb : (x == ("__debug__" : Str)) = false := by decide)
    (he : starEach (e :: es) X.env = (false, eval e X.env) :: starEach es X.env := by rfl) (hpl : (backTo pos (starEach es X.env)).any (·.1) = false := by rfl) : DE X W (.Call (.Name x p) (e :: es) [] pos) (xCB xr tx) := ⟨fun {G r m σ H F P Q} rs rh hx cv cx => by
  obtain ⟨r1, g1, g2⟩ := hc
  exact se_of (pe_callTy g1 hg hm hv sa_pa hn hdb he hpl) (ha.run rs rh hx (fun vs ys G1 m1 H1 e1 rh1 rv1 q1 => g2 rh1 rv1 q1 (cv.mono e1)) cx)⟩
theorem rvs1 {vs : List V} {y : Y} (h : RVs K G vs [y]) : ∃ v, vs = [v] ∧ RV K G v y := by
  cases h with
  | cons h t => cases t; exact ⟨_, rfl, h⟩
theorem rvs2 {vs : List V} {y z : Y} (h : RVs K G vs [y, z]) : ∃ v w, vs = [v, w] ∧ RV K G v y ∧ RV K G w z := by
  cases h with
  | cons h t =>
    cases t with
    | cons h2 t => cases t; exact ⟨_, _, rfl, h, h2⟩
abbrev xLen : XRC := fun ys m F => ∃ y zs, ys = [y] ∧ ((∃ x, y = .d (.str x) ∧ x.length ≤ 10000 ∧ zs.length = x.length) ∨ SqY m y zs) ∧ F (.d (.int zs.length)) m
theorem cd_len : CallD X (.builtin "len") xLen := ⟨_, call_len, fun {G m H vs ys F Q} rh rv hx cv => by
  obtain ⟨y, zs, rfl, hs, f⟩ := hx
  obtain ⟨v, rfl, rw⟩ := rvs1 rv
  refine ⟨v, zs.length, rfl, ?_, cv.at rh (.d (.int _)) f⟩
  rcases hs with ⟨x, rfl, hx, hl⟩ | hs
  · cases rw.str
    exact ⟨Nat.le_trans hx szl, hl⟩
  · obtain ⟨p, ws, rfl, s1, q⟩ := sqY_ok rh rw hs
    rcases s1 with s1 | s1
    · exact .inl ⟨ws, s1, q.length.symm⟩
    · exact .inr ⟨ws, s1, q.length.symm⟩⟩
/-- tuple(..) of a sequence: a new one of a list, itself of a tuple -/
abbrev xTupOf : XRC := fun ys m F => ∃ y, ys = [y] ∧ ((∃ ds, y = .d (.tuple ds) ∧ F y m) ∨ ∃ zs, LsY m y zs ∧ mkT zs m F)
theorem cd_tuple : CallD X (.type "tuple") xTupOf := ⟨_, call_tuple_of, fun {G m H vs ys F Q} rh rv hx cv => by
  obtain ⟨y, rfl, hs⟩ := hx
  obtain ⟨v, rfl, rw⟩ := rvs1 rv
  rcases hs with ⟨ds, rfl, f⟩ | ⟨zs, hs, f⟩
  · obtain ⟨p, ws, rfl, s1, q⟩ := rw.tup
    exact ⟨p, ws, rfl, .inr ⟨ex_t rh.sub s1, cv.at rh rw f⟩⟩
  · obtain ⟨p, ws, rfl, s1, q⟩ := lsY_ok rh rw hs
    exact ⟨p, ws, rfl, .inl ⟨.inl s1, fun l hl => mkT_ok rh q hl f cv⟩⟩⟩
/-- list(..): data -/
abbrev xListOf : XRC := fun ys m F => ∃ y ds, ys = [y] ∧ SqY m y (ds.map Y.d) ∧ F (.d (.list ds)) m
theorem cd_list : CallD X (.type "list") xListOf := ⟨_, call_list_of, fun {G m H vs ys F Q} rh rv hx cv => by
  obtain ⟨y, ds, rfl, hs, f⟩ := hx
  obtain ⟨v, rfl, rw⟩ := rvs1 rv
  obtain ⟨p, ws, rfl, s1, q⟩ := sqY_ok rh rw hs
  exact ⟨p, ws, rfl, s1, fun l hl => lstD_ok rh q hl f cv⟩⟩
abbrev xMax2 : XRC := fun ys m F => ∃ i j, ys = [.d (.int i), .d (.int j)] ∧ F (.d (.int (if j > i then j else i))) m
theorem cd_max2 (hc : X.calm = true) : CallD X (.builtin "max") xMax2 := ⟨_, call_max2 hc, fun {G m H vs ys F Q} rh rv hx cv => by
  obtain ⟨i, j, rfl, f⟩ := hx
  obtain ⟨v, w, rfl, r1, r2⟩ := rvs2 rv
  exact ⟨i, j, by rw [r1.int, r2.int], cv.at rh (.d (.int _)) f⟩⟩
abbrev xMin2 : XRC := fun ys m F => ∃ i j, ys = [.d (.int i), .d (.int j)] ∧ F (.d (.int (if j < i then j else i))) m
theorem cd_min2 (hc : X.calm = true) : CallD X (.builtin "min") xMin2 := ⟨_, call_min2 hc, fun {G m H vs ys F Q} rh rv hx cv => by
  obtain ⟨i, j, rfl, f⟩ := hx
  obtain ⟨v, w, rfl, r1, r2⟩ := rvs2 rv
  exact ⟨i, j, by rw [r1.int, r2.int], cv.at rh (.d (.int _)) f⟩⟩
theorem ints_rvs : ∀ {vs : List V} {ns : List Int}, DaAll K G vs (ns.map PyData.int) → vs = ns.map V.int
  | [], [], .nil => rfl
  | _ :: _, _ :: _, .cons h t => by cases h; rw [List.map_cons, ints_rvs t]
theorem bls_rvs : ∀ {vs : List V} {ns : List Bool}, DaAll K G vs (ns.map PyData.bool) → vs = ns.map V.bl
  | [], [], .nil => rfl
  | _ :: _, _ :: _, .cons h t => by cases h; rw [List.map_cons, bls_rvs t]
abbrev xSum : XRC := fun ys m F => ∃ (y : Y) (ns : List Int), ys = [y] ∧ LsY m y ((ns.map PyData.int).map Y.d) ∧ F (.d (.int ns.sum)) m
theorem cd_sum (hc : X.calm = true) : CallD X (.builtin "sum") xSum := ⟨_, cr_sum hc, fun {G m H vs ys F Q} rh rv hx cv => by
  obtain ⟨y, ns, rfl, hs, f⟩ := hx
  obtain ⟨v, rfl, rw⟩ := rvs1 rv
  obtain ⟨p, ws, rfl, s1, q⟩ := lsY_ok rh rw hs
  exact ⟨p, ns, rfl, by rw [← ints_rvs (RVs.das q)]; exact .inl s1, cv.at rh (.d (.int _)) f⟩⟩
abbrev xAll : XRC := fun ys m F => ∃ (y : Y) (ns : List Bool), ys = [y] ∧ LsY m y ((ns.map PyData.bool).map Y.d) ∧ F (.d (.bool (ns.all id))) m
theorem cd_all (hc : X.calm = true) : CallD X (.builtin "all") xAll := ⟨_, cr_all hc, fun {G m H vs ys F Q} rh rv hx cv => by
  obtain ⟨y, ns, rfl, hs, f⟩ := hx
  obtain ⟨v, rfl, rw⟩ := rvs1 rv
  obtain ⟨p, ws, rfl, s1, q⟩ := lsY_ok rh rw hs
  exact ⟨p, ns, rfl, by rw [← bls_rvs (RVs.das q)]; exact .inl s1, cv.at rh (.d (.bl _)) f⟩⟩
abbrev xAny : XRC := fun ys m F => ∃ (y : Y) (ns : List Bool), ys = [y] ∧ LsY m y ((ns.map PyData.bool).map Y.d) ∧ F (.d (.bool (ns.any id))) m
theorem cd_any (hc : X.calm = true) : CallD X (.builtin "any") xAny := ⟨_, cr_any hc, fun {G m H vs ys F Q} rh rv hx cv => by
  obtain ⟨y, ns, rfl, hs, f⟩ := hx
  obtain ⟨v, rfl, rw⟩ := rvs1 rv
  obtain ⟨p, ws, rfl, s1, q⟩ := lsY_ok rh rw hs
  exact ⟨p, ns, rfl, by rw [← bls_rvs (RVs.das q)]; exact .inl s1, cv.at rh (.d (.bl _)) f⟩⟩
/-- isinstance(x, T), T a built-in class -/
def tyD : PyData → String
  | .none => "NoneType" | .bool _ => "bool" | .int _ => "int" | .str _ => "str" | .list _ => "list" | .tuple _ => "tuple" | .dict _ => "dict"
theorem tyX_ok {v : V} {d : PyData} (rh : Rh K G m H) (h : Da K G v d) : TyX K H v (.type (tyD d)) := by
  cases h with
  | non => exact .base .non
  | bl b => exact .base (.bl b)
  | int i => exact .base (.int i)
  | str x => exact .base (.str x)
  | lst r q =>
    rcases r with r | ⟨o, r⟩
    · exact .base (.lst (rh.sub _ _ r))
    · exact .base (.frz (rh.sub _ _ r))
  | tup r q =>
    rcases r with (r | ⟨o, r⟩) | ⟨o, its, n, hk, hc, _⟩
    · exact .base (.tup (rh.sub _ _ r))
    · exact .fTuple (rh.sub _ _ r)
    · exact .kTuple hk hc
  | dic r _ _ _ =>
    rcases r with r | ⟨o, r⟩
    · exact .base (.dK (rh.sub _ _ r))
    · exact .fDict (rh.sub _ _ r)
abbrev xIsi (K : PySem.W.Frag) : XRC := fun ys m F => ∃ d n b, ys = [.d d, .v (.ty n)] ∧ PySem.W.kitOne K (.type (tyD d)) (.type n) = some b ∧ F (.d (.bool b)) m
theorem cd_isi : CallD X (.builtin "isinstance") (xIsi X.K) := ⟨_, call_isi, fun {G m H vs ys F Q} rh rv hx cv => by
  obtain ⟨d, n, b, rfl, e, f⟩ := hx
  obtain ⟨v, w, rfl, r1, r2⟩ := rvs2 rv
  cases r2
  exact ⟨v, .ty n, .type (tyD d), .type n, b, rfl, .ty n, tyX_ok rh r1.da, e, cv.at rh (.d (.bl b)) f⟩⟩
abbrev xStrI : XRC := fun ys m F => ∃ i, ys = [.d (.int i)] ∧ i.natAbs.log2 < 1920 ∧ F (.d (.str (toString i))) m
theorem cd_str : CallD X (.type "str") xStrI := ⟨_, call_str_int, fun {G m H vs ys F Q} rh rv hx cv => by
  obtain ⟨i, rfl, hi, f⟩ := hx
  obtain ⟨v, rfl, r1⟩ := rvs1 rv
  exact ⟨i, by rw [r1.int], hi, cv.at rh (.d (.str _)) f⟩⟩
end
end Dl
/-! D6: statements, targets, what is walked, comprehensions, a def by its body. -/
namespace Dl
open PySem PySem.Spec PyProof.Rows L2 Evl

/-! ### meanings -/
section
variable (X : Cx)
def SG (tg : Expr) : TG := fun v σ H Q => ∀ (pins : List (Addr × Obj)) (s : Shared) (u : Value), Inv X pins σ H s → RelV v u → wpAny (model X.prog X.w) X.A (assign tg X.env u) (fun _ s' => ∃ σ' H', Inv X pins σ' H' s' ∧ Q σ' H') X.xe s
def SGs (ts : List Expr) : TGs := fun vs σ H Q => ∀ (pins : List (Addr × Obj)) (s : Shared) (us : List Value), Inv X pins σ H s → Vals vs us → wpAny (model X.prog X.w) X.A (assignInOrder ((assignEach ts X.env).map (·.2)) us) (fun _ s' => ∃ σ' H', Inv X pins σ' H' s' ∧ Q σ' H') X.xe s
def SI (tg it : Expr) : TI := fun σ H R => ∀ (pins : List (Addr × Obj)) (s : Shared), Inv X pins σ H s → wpAny (model X.prog X.w) X.A (eval it X.env) (fun v s1 => wpAny (model X.prog X.w) X.A (pyIter v) (PIE X pins σ tg R) X.xe s1) X.xe s
def SSt (st : Stmt) : TS := fun D σ H => ∀ (pins : List (Addr × Obj)) (s : Shared), Inv X pins σ H s → wpAny (model X.prog X.w) X.A (exec st X.env) (SP X pins D) X.xe s
def SSts (st : List Stmt) : TS := fun D σ H => ∀ (pins : List (Addr × Obj)) (s : Shared), Inv X pins σ H s → wpAny (model X.prog X.w) X.A (execs st X.env) (SP X pins D) X.xe s
end
section
variable {X : Cx} {e tg it : Expr} {ts : List Expr} {st : Stmt} {sts : List Stmt} {σ : L2.St} {H : Hp}
theorem sg_pg : PG X tg (SG X tg) := ⟨fun pins s _ _ _ u _ I r h => h pins s u I r⟩
theorem sgs_pgs : PGs X ts (SGs X ts) := ⟨fun pins s _ _ _ us _ I r h => h pins s us I r⟩
theorem si_pi : PI X tg it (SI X tg it) := ⟨fun pins s _ _ _ I h => h pins s I⟩
theorem ss_ps : PS X st (SSt X st) := ⟨fun pins s _ _ _ I h => h pins s I⟩
theorem sss_pss : PSs X sts (SSts X sts) := ⟨fun pins s _ _ _ I h => h pins s I⟩
theorem sg_of {t : TG} {v : V} {Q : L2.St → Hp → Prop} (h : PG X tg t) (q : t v σ H Q) : SG X tg v σ H Q := fun pins s u I r => h.run pins s σ H v u Q I r q
theorem sgs_of {t : TGs} {v : List V} {Q : L2.St → Hp → Prop} (h : PGs X ts t) (q : t v σ H Q) : SGs X ts v σ H Q := fun pins s u I r => h.run pins s σ H v u Q I r q
theorem si_of {t : TI} {R : It → Hp → Prop} (h : PI X tg it t) (q : t σ H R) : SI X tg it σ H R := fun pins s I => h.run pins s σ H R I q
theorem ss_of {t : TS} {D : Ends} (h : PS X st t) (q : t D σ H) : SSt X st D σ H := fun pins s I => h.run pins s σ H D I q
theorem sss_of {t : TS} {D : Ends} (h : PSs X sts t) (q : t D σ H) : SSts X sts D σ H := fun pins s I => h.run pins s σ H D I q
end

/-! ### ends -/
abbrev XPr := Value → List (Str × Y) → Ro → Mu → Prop
structure DEnds where
  nx : Ro → Mu → Prop
  rt : Y → Mu → Prop
  bk : Ro → Mu → Prop := fun _ _ => False
  ct : Ro → Mu → Prop := fun _ _ => False
  ex : XPr := fun _ _ _ _ => False
abbrev DEnds.at (D : DEnds) (r : Ro) : XP := fun c fs m => D.ex c fs r m
abbrev XS := DEnds → Ro → Mu → Prop
structure Fits (K : PySem.W.Frag) (W : WX) (G : Hp) (D : DEnds) (E : Ends) : Prop where
  nx : ∀ σ r G' m H, Ex G G' → Rs K G' σ r → Rh K G' m H → D.nx r m → E.nx σ H
  rt : ∀ v y G' m H, Ex G G' → Rh K G' m H → RV K G' v y → D.rt y m → E.rt v H
  bk : ∀ σ r G' m H, Ex G G' → Rs K G' σ r → Rh K G' m H → D.bk r m → E.bk σ H
  ct : ∀ σ r G' m H, Ex G G' → Rs K G' σ r → Rh K G' m H → D.ct r m → E.ct σ H
  ex : ∀ cls d fs σ r G' m H, Ex G G' → Rs K G' σ r → Rh K G' m H → XF K G' H d fs → D.ex cls fs r m → W cls d σ H
section
variable {K : PySem.W.Frag} {W : WX} {G G' : Hp} {D : DEnds} {E : Ends}
theorem Fits.mono (e : Ex G G') (f : Fits K W G D E) : Fits K W G' D E :=
  ⟨fun σ r G1 m H e1 => f.nx σ r G1 m H (e.trans e1), fun v y G1 m H e1 => f.rt v y G1 m H (e.trans e1), fun σ r G1 m H e1 => f.bk σ r G1 m H (e.trans e1),
    fun σ r G1 m H e1 => f.ct σ r G1 m H (e.trans e1), fun c d fs σ r G1 m H e1 => f.ex c d fs σ r G1 m H (e.trans e1)⟩
theorem Fits.cx {σ : L2.St} {r : Ro} (f : Fits K W G D E) (rs : Rs K G σ r) : CvX K G (D.at r) (WEx W σ) := fun c d fs G1 m H e1 rh xf h => f.ex c d fs σ r G1 m H e1 (rs.mono e1) rh xf h
theorem Fits.nx_of {nx : Ro → Mu → Prop} {nE : L2.St → Hp → Prop} (f : Fits K W G D E) (h : ∀ σ r G' m H, Ex G G' → Rs K G' σ r → Rh K G' m H → nx r m → nE σ H) : Fits K W G { D with nx := nx } { E with nx := nE } :=
  ⟨h, f.rt, f.bk, f.ct, f.ex⟩
end
structure DS (X : Cx) (W : WX) (st : Stmt) (t : XS) : Prop where
  run : ∀ {G : Hp} {r : Ro} {m : Mu} {σ : L2.St} {H : Hp} {D : DEnds} {E : Ends}, Rs X.K G σ r → Rh X.K G m H → t D r m → Fits X.K W G D E → SSt X st E σ H
structure DSs (X : Cx) (W : WX) (sts : List Stmt) (t : XS) : Prop where
  run : ∀ {G : Hp} {r : Ro} {m : Mu} {σ : L2.St} {H : Hp} {D : DEnds} {E : Ends}, Rs X.K G σ r → Rh X.K G m H → t D r m → Fits X.K W G D E → SSts X sts E σ H
/-- targets -/
abbrev XG := Y → Ro → Mu → (Ro → Mu → Prop) → Prop
abbrev XGs := List Y → Ro → Mu → (Ro → Mu → Prop) → Prop
def CvG (K : PySem.W.Frag) (G : Hp) (F : Ro → Mu → Prop) (Q : L2.St → Hp → Prop) : Prop := ∀ σ r G' m H, Ex G G' → Rs K G' σ r → Rh K G' m H → F r m → Q σ H
theorem CvG.mono {K : PySem.W.Frag} {G G' : Hp} {F : Ro → Mu → Prop} {Q : L2.St → Hp → Prop} (e : Ex G G') (c : CvG K G F Q) : CvG K G' F Q := fun σ r G1 m H e1 => c σ r G1 m H (e.trans e1)
structure DG (X : Cx) (tg : Expr) (g : XG) : Prop where
  run : ∀ {G : Hp} {r : Ro} {m : Mu} {σ : L2.St} {H : Hp} {v : V} {y : Y} {F : Ro → Mu → Prop} {Q : L2.St → Hp → Prop}, Rs X.K G σ r → Rh X.K G m H → RV X.K G v y → g y r m F → CvG X.K G F Q → SG X tg v σ H Q
structure DGs (X : Cx) (ts : List Expr) (g : XGs) : Prop where
  run : ∀ {G : Hp} {r : Ro} {m : Mu} {σ : L2.St} {H : Hp} {vs : List V} {ys : List Y} {F : Ro → Mu → Prop} {Q : L2.St → Hp → Prop}, Rs X.K G σ r → Rh X.K G m H → RVs X.K G vs ys → g ys r m F → CvG X.K G F Q → SGs X ts vs σ H Q

section
variable {X : Cx} {W : WX} {e a b c o i tg : Expr} {es ts rest : List Expr} {st : Stmt} {sts : List Stmt} {pos : Pos} {t ta tb tc to ti : XE} {tt : XT} {u u' : XS} {g : XG} {gs : XGs} {K : PySem.W.Frag}
/-! ### targets -/
abbrev xgName (i : Nat) : XG := fun y r m F => F (r.set i (some y)) m
theorem dg_name {i : Nat} {x : Str} (hN : X.N.Nodup) (hi : X.N[i]? = some x) (hx : Loc X.env.scope x) (hf : X.fn x = true ∨ X.env.scope.names.lookup x = some .local := by first | exact .inl rfl | exact .inr rfl | assumption) : DG X (.Name x pos) (xgName i) :=
  ⟨fun {G r m σ H v y F Q} rs rh rv hx' cv => sg_of (pg_name hN hi hx hf) (cv _ _ G m H (Ex.refl G) (rs.set rv i) rh hx')⟩
abbrev xgNil : XGs := fun ys r m F => ys = [] ∧ F r m
abbrev xgCons (g : XG) (gs : XGs) : XGs := fun ys r m F => ∃ y zs, ys = y :: zs ∧ g y r m (fun r1 m1 => gs zs r1 m1 F)
theorem dgs_nil : DGs X [] xgNil := ⟨fun {G r m σ H vs ys F Q} rs rh rv ⟨e, h⟩ cv => by
  subst e; cases rv
  exact sgs_of pgs_nil ⟨rfl, cv _ _ G m H (Ex.refl G) rs rh h⟩⟩
theorem dgs_cons (h1 : DG X e g) (h2 : DGs X es gs) (hs : (assignEach (e :: es) X.env).map (·.2) = assign e X.env :: (assignEach es X.env).map (·.2) := by rfl) : DGs X (e :: es) (xgCons g gs) := ⟨fun {G r m σ H vs ys F Q} rs rh rv ⟨y, zs, e1, h⟩ cv => by
  subst e1
  cases rv with
  | cons r1 r2 => exact sgs_of (pgs_cons sg_pg sgs_pgs hs) ⟨_, _, rfl, h1.run rs rh r1 h fun σ1 r3 G1 m1 H1 e1 rs1 rh1 q => h2.run rs1 rh1 (RVs.mono e1 r2) q (cv.mono e1)⟩⟩
abbrev xgTup (n : Nat) (gs : XGs) : XG := fun y r m F => ∃ ys, SqY m y ys ∧ (∀ ds, y ≠ .d (.list ds)) ∧ (∀ p, y = .l p → m p = some (.tup ys)) ∧ (∀ ds, y ≠ .r ds) ∧ ys.length = n ∧ gs ys r m F
theorem dg_tup {k n : Nat} (hc : X.calm = true) (h : DGs X es gs) (hn : (assignEach es X.env).length = n := by rfl) (hst : (assignEach es X.env).findIdx? (·.1) = none := by rfl) : DG X (.Tuple es k pos) (xgTup n gs) := ⟨fun {G r m σ H v y F Q} rs rh rv ⟨ys, h1, h2, h3, h4, h5, h6⟩ cv => by
  have z : ∃ p vs, v = .ref p ∧ SqT X.K H p vs ∧ RVs X.K G vs ys := by
    cases rv with
    | d q =>
      cases q with
      | tup s q => cases h1; exact ⟨_, _, rfl, ex_t rh.sub s, q.rvs⟩
      | lst s q => exact absurd rfl (h2 _)
      | _ => exact h1.elim
    | l p =>
      obtain ⟨ws, e, q⟩ := rh.tup (h3 p rfl)
      exact ⟨p, ws, rfl, SqT.of e, q⟩
    | v x => exact h1.elim
    | r s q => exact absurd rfl (h4 _)
  obtain ⟨p, vs, rfl, s1, q⟩ := z
  exact sg_of (pg_tup hc sgs_pgs hn hst) ⟨p, vs, rfl, s1, by rw [q.length]; exact h5, h.run rs rh q h6 cv⟩⟩
/-- xs[i] = .. -/
abbrev xgSub (to ti : XE) : XG := fun v r m F => to r m (fun y m1 => ti r m1 (fun z m2 => ∃ p ys k j, y = .l p ∧ z = .d (.int k) ∧ m2 p = some (.lst ys) ∧ ixN ys.length k = some j ∧ F r (mu m2 p (.lst (ys.set j v)))) (fun _ _ _ => False)) (fun _ _ _ => False)
theorem cx_no {σ : L2.St} {G : Hp} : CvX K G (fun _ _ _ => False) (WEx W σ) := fun _ _ _ _ _ _ _ _ _ h => h.elim
theorem dg_sub (ho : DE X W o to) (hi : DE X W i ti) (ha : ∀ v, assign (.Subscript o i pos) X.env v = (holding [v] (eval o X.env) >>= fun ov => holding [v, ov] (eval i X.env) >>= fun iv => standAt pos >>= fun _ => holding [v, ov, iv] (setItem ov iv v) >>= fun _ => release [v, ov, iv] []) := by intro _; rfl) :
    DG X (.Subscript o i pos) (xgSub to ti) := ⟨fun {G r m σ H v y F Q} rs rh rv h cv =>
  sg_of (pg_sub se_pe se_pe set_list ha) (ho.run (W := W) rs rh h (fun v1 y1 G1 m1 H1 e1 rh1 rv1 q1 =>
    hi.run (rs.mono e1) rh1 q1 (fun v2 y2 G2 m2 H2 e2 rh2 rv2 ⟨p, ys, k, j, q3, q4, q5, q6, q7⟩ => by
      subst q3 q4
      cases rv1.loc
      obtain ⟨ws, e5, q8⟩ := rh2.lst q5
      exact ⟨p, ws, k, j, rfl, rv2.int, e5, by rw [q8.length]; exact q6, cv _ _ G2 _ _ (e1.trans e2) (rs.mono (e1.trans e2)) (rh2.write q5 (.lst (RVs.set (rv.mono (e1.trans e2)) j q8))) q7⟩) cx_no) cx_no)⟩

/-! ### blocks -/
abbrev xNext : XS := fun D r m => D.nx r m
abbrev xSeq (t u : XS) : XS := fun D r m => t { D with nx := u D } r m
theorem dss_nil : DSs X W [] xNext := ⟨fun {G r m σ H D E} rs rh h f => sss_of pss_nil (f.nx _ _ G m H (Ex.refl G) rs rh h)⟩
theorem dss_cons (h1 : DS X W st u) (h2 : DSs X W sts u') : DSs X W (st :: sts) (xSeq u u') := ⟨fun {G r m σ H D E} rs rh h f =>
  sss_of (pss_cons ss_ps sss_pss) (h1.run (D := { D with nx := u' D }) rs rh h (f.nx_of fun σ1 r1 G1 m1 H1 e1 rs1 rh1 q => h2.run rs1 rh1 q (f.mono e1)))⟩
theorem dss_one (h1 : DS X W st u) : DSs X W [st] u := ⟨fun {G r m σ H D E} rs rh h f => sss_of (pss_one ss_ps) (h1.run rs rh h f)⟩
theorem ds_pass : DS X W (.Pass pos) xNext := ⟨fun {G r m σ H D E} rs rh h f => ss_of ps_pass (f.nx _ _ G m H (Ex.refl G) rs rh h)⟩
abbrev xBreak : XS := fun D r m => D.bk r m
abbrev xCont : XS := fun D r m => D.ct r m
theorem ds_break : DS X W (.Break pos) xBreak := ⟨fun {G r m σ H D E} rs rh h f => ss_of ps_break (f.bk _ _ G m H (Ex.refl G) rs rh h)⟩
theorem ds_cont : DS X W (.Continue pos) xCont := ⟨fun {G r m σ H D E} rs rh h f => ss_of ps_continue (f.ct _ _ G m H (Ex.refl G) rs rh h)⟩
abbrev xDrop (t : XE) : XS := fun D r m => t r m (fun _ m1 => D.nx r m1) (D.at r)
theorem ds_expr (h : DE X W e t) (hs : swapsWith e none pos.line X.env = pure false := by rfl) : DS X W (.Expr e pos) (xDrop t) := ⟨fun {G r m σ H D E} rs rh hx f =>
  ss_of (ps_expr se_pe hs) (h.run rs rh hx (fun v y G1 m1 H1 e1 rh1 rv1 q => f.nx _ _ G1 m1 H1 e1 (rs.mono e1) rh1 q) (f.cx rs))⟩
abbrev xRet (t : XE) : XS := fun D r m => t r m D.rt (D.at r)
theorem ds_ret (h : DE X W e t) : DS X W (.Return (some e) pos) (xRet t) := ⟨fun {G r m σ H D E} rs rh hx f =>
  ss_of (ps_ret se_pe) (h.run rs rh hx (fun v y G1 m1 H1 e1 rh1 rv1 q => f.rt v y G1 m1 H1 e1 rh1 rv1 q) (f.cx rs))⟩
abbrev xRetN : XS := fun D _ m => D.rt (.d .none) m
theorem ds_retN : DS X W (.Return none pos) xRetN := ⟨fun {G r m σ H D E} rs rh hx f => ss_of ps_retN (f.rt _ _ G m H (Ex.refl G) rh (.d .non) hx)⟩
abbrev xIfS (c : XT) (t u : XS) : XS := fun D r m => c r m (fun k m1 => if k = true then t D r m1 else u D r m1) (D.at r)
theorem ds_if {sa sb : List Stmt} (hc : DT X W c tt) (ha : DSs X W sa u) (hb : DSs X W sb u') : DS X W (.If c sa sb pos) (xIfS tt u u') := ⟨fun {G r m σ H D E} rs rh hx f =>
  ss_of (ps_if st_pt sss_pss sss_pss) (hc.run rs rh hx (fun k G1 m1 H1 e1 rh1 q => by
    cases k with
    | true => exact ha.run (rs.mono e1) rh1 q (f.mono e1)
    | false => exact hb.run (rs.mono e1) rh1 q (f.mono e1)) (f.cx rs))⟩
abbrev xNever : XS := fun _ _ _ => False
theorem ds_never : DS X W st xNever := ⟨fun _ _ h _ => h.elim⟩
theorem dss_never : DSs X W sts xNever := ⟨fun _ _ h _ => h.elim⟩
abbrev xAsg (t : XE) (g : XG) : XS := fun D r m => t r m (fun y m1 => g y r m1 D.nx) (D.at r)
theorem ds_asg (he : DE X W e t) (hg : DG X tg g) (hs : swapsWithSole [tg] e pos.line X.env = pure false := by rfl) (hw : swappedStores [tg] e X.env = pure none := by rfl)
    (h1 : (assignEach [tg] X.env).map (·.2) = [assign tg X.env] := by rfl) : DS X W (.Assign [tg] e pos) (xAsg t g) := ⟨fun {G r m σ H D E} rs rh hx f =>
  ss_of (ps_asg se_pe sg_pg hs hw h1) (he.run rs rh hx (fun v y G1 m1 H1 e1 rh1 rv1 q => hg.run (rs.mono e1) rh1 rv1 q (fun σ2 r2 G2 m2 H2 e2 rs2 rh2 q2 => f.nx _ _ G2 m2 H2 (e1.trans e2) rs2 rh2 q2)) (f.cx rs))⟩
theorem ds_set {i : Nat} {x : Str} {pos' : Pos} (hN : X.N.Nodup) (hi : X.N[i]? = some x) (hx : Loc X.env.scope x) (he : DE X W e t) (hs : swapsWith e (some (.Name x pos')) pos.line X.env = pure false := by rfl) (hf : X.fn x = true ∨ X.env.scope.names.lookup x = some .local := by first | exact .inl rfl | exact .inr rfl | assumption) :
    DS X W (.Assign [.Name x pos'] e pos) (xAsg t (xgName i)) := ⟨fun {G r m σ H D E} rs rh hx' f =>
  ss_of (ps_set hN hi hx se_pe hs hf) (he.run rs rh hx' (fun v y G1 m1 H1 e1 rh1 rv1 q => f.nx _ _ G1 m1 H1 e1 ((rs.mono e1).set rv1 i) rh1 q) (f.cx rs))⟩
abbrev xPar (i j : Nat) (ta : XA) : XS := fun D r m => ta r m (fun ys m1 => ∃ y z, ys = [y, z] ∧ D.nx ((r.set i (some y)).set j (some z)) m1) (D.at r)
theorem ds_par {i j : Nat} {x y : Str} {tx : XA} {px py pt : Pos} {kt k2 pt2} (hc : X.calm = true) (hN : X.N.Nodup) (hi : X.N[i]? = some x) (hj : X.N[j]? = some y) (hij : i ≠ j)
    (hx : X.env.scope.names.lookup x = some .local) (hy : X.env.scope.names.lookup y = some .local) (ha : DA X W [a, b] tx)
    (hw : swappedStores [.Tuple [.Name x px, .Name y py] kt pt] (.Tuple [a, b] k2 pt2) X.env = pure (some [x, y]))
    (hs : swapsWithSole [.Tuple [.Name x px, .Name y py] kt pt] (.Tuple [a, b] k2 pt2) pos.line X.env = pure false := by rfl) :
    DS X W (.Assign [.Tuple [.Name x px, .Name y py] kt pt] (.Tuple [a, b] k2 pt2) pos) (xPar i j tx) := ⟨fun {G r m σ H D E} rs rh hx' f =>
  ss_of (ps_par hc hN hi hj hij hx hy sa_pa hw hs) (ha.run rs rh hx' (fun vs ys G1 m1 H1 e1 rh1 rv1 ⟨y1, z1, q, q2⟩ => by
    subst q
    obtain ⟨v, w, rfl, r1, r2⟩ := rvs2 rv1
    exact ⟨v, w, rfl, f.nx _ _ G1 m1 H1 e1 (((rs.mono e1).set r1 i).set r2 j) rh1 q2⟩) (f.cx rs))⟩
/-- del xs[i] -/
abbrev xDel (to ti : XE) : XS := fun D r m => to r m (fun y m1 => ti r m1 (fun z m2 => ∃ p ys k j, y = .l p ∧ z = .d (.int k) ∧ m2 p = some (.lst ys) ∧ -(2 ^ 63) ≤ k ∧ k < 2 ^ 63 ∧ seqIndex? k ys.length = some j ∧ D.nx r (mu m2 p (.lst (ys.eraseIdx j)))) (D.at r)) (D.at r)
theorem ds_del {tpos : Pos} (ho : DE X W o to) (hi : DE X W i ti) : DS X W (.Delete [.Subscript o i tpos] pos) (xDel to ti) := ⟨fun {G r m σ H D E} rs rh hx f =>
  ss_of (ps_delL se_pe se_pe) (ho.run rs rh hx (fun v y G1 m1 H1 e1 rh1 rv1 q1 =>
    hi.run (rs.mono e1) rh1 q1 (fun w z G2 m2 H2 e2 rh2 rv2 ⟨p, ys, k, j, q3, q4, q5, q6, q7, q8, q9⟩ => by
      subst q3 q4
      cases rv1.loc
      obtain ⟨ws, e5, r5⟩ := rh2.lst q5
      exact ⟨p, ws, k, j, rfl, rv2.int, e5, q6, q7, by rw [r5.length]; exact q8, f.nx _ _ G2 _ _ (e1.trans e2) (rs.mono (e1.trans e2)) (rh2.write q5 (.lst (RVs.eraseIdx j r5))) q9⟩) ((f.mono e1).cx (rs.mono e1))) (f.cx rs))⟩
/-- o.f = e -/
abbrev xSetF (K : PySem.W.Frag) (to tv : XE) (fn : Str) : XS := fun D r m => tv r m (fun y m1 => to r m1 (fun z m2 => ∃ p C dx gs, z = .l p ∧ m2 p = some (.ins C dx gs) ∧ Cls K C ∧ NoAttr K C fn ∧ gs.length < 1000 ∧ D.nx r (mu m2 p (.ins C dx (putY fn y gs)))) (D.at r)) (D.at r)
theorem RF.put {G : Hp} {f : Str} {v : V} {y : Y} (h : RV K G v y) : ∀ {fs : List (Str × V)} {gs : List (Str × Y)}, RF K G fs gs → RF K G (putF f v fs) (putY f y gs)
  | _, _, .nil => .cons ⟨rfl, h⟩ .nil
  | (a, _) :: _, (b, _) :: _, .cons ⟨h1, h2⟩ t => by
    have h1' : a = b := h1
    subst h1'
    show RF K G (if a = f then _ else _) (if a = f then _ else _)
    by_cases q : a = f
    · rw [if_pos q, if_pos q]; exact .cons ⟨rfl, h⟩ t
    · rw [if_neg q, if_neg q]; exact .cons ⟨rfl, h2⟩ (RF.put h t)
theorem ds_setF {fn : Str} {pos' : Pos} (ho : DE X W o to) (hv : DE X W e t) (hs : swapsWith e (some (.Attribute o fn pos')) pos.line X.env = pure false := by rfl) : DS X W (.Assign [.Attribute o fn pos'] e pos) (xSetF X.K to t fn) := ⟨fun {G r m σ H D E} rs rh hx f =>
  ss_of (ps_fld se_pe se_pe hs) (hv.run rs rh hx (fun v y G1 m1 H1 e1 rh1 rv1 q1 =>
    ho.run (rs.mono e1) rh1 q1 (fun w z G2 m2 H2 e2 rh2 rv2 ⟨p, C, dx, gs, q3, q4, q5, q6, q7, q8⟩ => by
      subst q3
      obtain ⟨fs, e5, r5⟩ := rh2.ins q4
      exact ⟨p, C, dx, fs, rv2.loc, e5, q5, q6, by rw [r5.length]; exact q7, f.nx _ _ G2 _ _ (e1.trans e2) (rs.mono (e1.trans e2)) (rh2.write q4 (.ins (RF.put (rv1.mono e2) r5))) q8⟩) ((f.mono e1).cx (rs.mono e1))) (f.cx rs))⟩
/-- name op= e on ints -/
abbrev xAug (i : Nat) (t : XE) (g : Int → Int → Int) : XS := fun D r m => ∃ j, r[i]? = some (some (.d (.int j))) ∧ t r m (fun y m1 => ∃ k, y = .d (.int k) ∧ D.nx (r.set i (some (.d (.int (g j k))))) m1) (D.at r)
theorem ds_aug {i : Nat} {x : Str} {op : Operator} {gg : Int → Int → Int} {pos' : Pos} (hN : X.N.Nodup) (hi : X.N[i]? = some x) (hx : Loc X.env.scope x) (he : DE X W e t) (ho : PIp X op (ipI gg)) (hf : X.fn x = true ∨ X.env.scope.names.lookup x = some .local := by first | exact .inl rfl | exact .inr rfl | assumption) :
    DS X W (.AugAssign (.Name x pos') op e pos) (xAug i t gg) := ⟨fun {G r m σ H D E} rs rh ⟨j, q1, q2⟩ f => by
  obtain ⟨w, e1, rv⟩ := rs.get q1
  cases rv.int
  exact ss_of (ps_aug hN hi hx se_pe ho hf) ⟨.int j, e1, he.run rs rh q2 (fun v y G1 m1 H1 e2 rh1 rv1 ⟨k, q3, q4⟩ => by
    subst q3
    exact ⟨j, k, rfl, rv1.int, f.nx _ _ G1 m1 H1 e2 ((rs.mono e2).set (.d (.int _)) i) rh1 q4⟩) (f.cx rs)⟩⟩
end
end Dl
/-! D7: what is walked; for; list comprehensions. -/
namespace Dl
open PySem PySem.Spec PyProof.Rows L2 Evl

/-- a walk on data: how many turns, the item of a turn, what the store must keep -/
structure Wk where
  n : Nat
  itm : Nat → Mu → (Y → Mu → Prop) → Prop
  src : Mu → Prop
abbrev XI := Ro → Mu → (Wk → Mu → Prop) → XP → Prop
structure JOk (K : PySem.W.Frag) (J : It) (k : Wk) (G : Hp) : Prop where
  go : ∀ i m G2 H, Ex G G2 → Rh K G2 m H → k.src m → i < k.n → J.go i H
  yld : ∀ i m G2 H x H', Ex G G2 → Rh K G2 m H → k.src m → i < k.n → J.yld i H x H' → ∀ F Q, k.itm i m F → CvE K G2 F Q → Q x H'
  stop : ∀ m G2 H, Ex G G2 → Rh K G2 m H → k.src m → J.stop k.n H
theorem JOk.mono {K : PySem.W.Frag} {J : It} {k : Wk} {G G' : Hp} (e : Ex G G') (j : JOk K J k G) : JOk K J k G' :=
  ⟨fun i m G2 H e1 => j.go i m G2 H (e.trans e1), fun i m G2 H x H' e1 => j.yld i m G2 H x H' (e.trans e1), fun m G2 H e1 => j.stop m G2 H (e.trans e1)⟩
structure DI (X : Cx) (W : WX) (tg it : Expr) (t : XI) : Prop where
  run : ∀ {G : Hp} {r : Ro} {m : Mu} {σ : L2.St} {H : Hp} {F : Wk → Mu → Prop} {P : XP} {R : It → Hp → Prop}, Rs X.K G σ r → Rh X.K G m H → t r m F P →
    (∀ J k G' m' H', Ex G G' → Rh X.K G' m' H' → JOk X.K J k G' → F k m' → R J H') → CvX X.K G P (WEx W σ) → SI X tg it σ H R

section
variable {X : Cx} {W : WX} {tg e e2 : Expr} {pos : Pos} {t : XE} {ta : XA} {K : PySem.W.Frag}
theorem si_seq {σ : L2.St} {H : Hp} {R : It → Hp → Prop} (h : SE X e σ H fun x H1 => ∃ a, x = .ref a ∧ ((∃ xs, SqL X.K H1 a xs ∧ R (Itl X.K a) H1) ∨ ∃ xs, SqT X.K H1 a xs ∧ R (Itt X.K a) H1)) : SI X tg e σ H R := fun pins s I => by
  refine thn (h pins s I) fun v s1 ⟨x, H1, J, r1, a, ex, alt⟩ => ?_
  subst ex
  cases r1
  have fresh1 : ∀ b ∈ [s1.heap.objs.size], FpOk X pins H1 b := fun b hb => by
    obtain rfl : b = s1.heap.objs.size := by simpa using hb
    exact J.fpOk (Nat.le_refl _) (J.hok.fresh (Nat.le_refl _))
  rcases alt with ⟨xs, hq, q⟩ | ⟨xs, hq, q⟩
  · obtain ⟨its, rv, pl, hz⟩ := J.list hq
    exact wpAny_pyIter_list pl.isList ⟨_, [s1.heap.objs.size], _, _, H1, rfl, J.kept (t' := s1.toks) (fun b o z => Heap.get?_push_of_some _ z), turn_list a _, ⟨_, Heap.get?_push_size _ rfl, rfl, rfl⟩, fresh1, q⟩
  · obtain ⟨its, rv, pl, hz⟩ := J.tuple hq
    exact wpAny_pyIter_tuple (show s1.heap.IsTuple a its.toArray from pl) ⟨_, [s1.heap.objs.size], _, _, H1, rfl, J.kept (t' := s1.toks) (fun b o z => Heap.get?_push_of_some _ z), turn_tuple a _, ⟨_, Heap.get?_push_size _ rfl, rfl, rfl⟩, fresh1, q⟩
abbrev wkSeq (m1 : Mu) (y : Y) (ys : List Y) : Wk := ⟨ys.length, fun i m F => ∃ z, ys[i]? = some z ∧ F z m, fun m => ∀ p, y = .l p → m p = m1 p⟩
/-- over a list or a tuple -/
abbrev xiSeq (t : XE) : XI := fun r m F P => t r m (fun y m1 => ∃ ys, SqY m1 y ys ∧ F (wkSeq m1 y ys) m1) P
theorem jok_L {G : Hp} {a : Addr} {y : Y} {ys : List Y} {m1 : Mu} (h : ∀ m G2 H, Ex G G2 → Rh K G2 m H → (∀ p, y = .l p → m p = m1 p) → ∃ vs, SqL K H a vs ∧ RVs K G2 vs ys) : JOk K (Itl K a) (wkSeq m1 y ys) G where
  go := fun i m G2 H e rh s hi => by
    obtain ⟨vs, h1, h2⟩ := h m G2 H e rh s
    have hi' : i < vs.length := by rw [h2.length]; exact hi
    exact ⟨vs, vs[i], h1, by simp [hi']⟩
  yld := fun i m G2 H x H' e rh s hi q F Q f cv => by
    obtain ⟨vs, h1, h2⟩ := h m G2 H e rh s
    obtain ⟨rfl, q2⟩ := q
    obtain ⟨z, hz, f⟩ := f
    obtain ⟨w, hw, rw⟩ := RVs.get h2 hz
    have e1 := q2 vs h1
    rw [hw] at e1; cases e1
    exact cv.at rh rw f
  stop := fun m G2 H e rh s => by
    obtain ⟨vs, h1, h2⟩ := h m G2 H e rh s
    exact ⟨vs, h1, by rw [h2.length]; exact Nat.le_refl _⟩
theorem jok_T {G : Hp} {a : Addr} {y : Y} {ys : List Y} {m1 : Mu} (h : ∀ m G2 H, Ex G G2 → Rh K G2 m H → (∀ p, y = .l p → m p = m1 p) → ∃ vs, SqT K H a vs ∧ RVs K G2 vs ys) : JOk K (Itt K a) (wkSeq m1 y ys) G where
  go := fun i m G2 H e rh s hi => by
    obtain ⟨vs, h1, h2⟩ := h m G2 H e rh s
    have hi' : i < vs.length := by rw [h2.length]; exact hi
    exact ⟨vs, vs[i], h1, by simp [hi']⟩
  yld := fun i m G2 H x H' e rh s hi q F Q f cv => by
    obtain ⟨vs, h1, h2⟩ := h m G2 H e rh s
    obtain ⟨rfl, q2⟩ := q
    obtain ⟨z, hz, f⟩ := f
    obtain ⟨w, hw, rw⟩ := RVs.get h2 hz
    have e1 := q2 vs h1
    rw [hw] at e1; cases e1
    exact cv.at rh rw f
  stop := fun m G2 H e rh s => by
    obtain ⟨vs, h1, h2⟩ := h m G2 H e rh s
    exact ⟨vs, h1, by rw [h2.length]; exact Nat.le_refl _⟩
theorem di_seq (h : DE X W e t) : DI X W tg e (xiSeq t) := ⟨fun {G r m σ H F P R} rs rh hx cr cx =>
  si_seq (h.run rs rh hx (fun v y G1 m1 H1 e1 rh1 rv1 ⟨ys, hs, f⟩ => by
    cases rv1 with
    | d q =>
      cases q with
      | lst s q =>
        cases hs
        exact ⟨_, rfl, .inl ⟨_, .inl (rd_sub rh1 s), cr _ _ G1 m1 H1 e1 rh1 (jok_L fun m G2 H e2 rh2 _ => ⟨_, .inl (rd_sub rh2 (ex_rd e2 s)), RVs.mono e2 q.rvs⟩) f⟩⟩
      | tup s q =>
        cases hs
        exact ⟨_, rfl, .inr ⟨_, ex_t rh1.sub s, cr _ _ G1 m1 H1 e1 rh1 (jok_T fun m G2 H e2 rh2 _ => ⟨_, ex_t (e2.trans rh2.sub) s, RVs.mono e2 q.rvs⟩) f⟩⟩
      | _ => exact hs.elim
    | l p =>
      rcases hs with hs | hs
      · obtain ⟨ws, e5, q⟩ := rh1.lst hs
        exact ⟨_, rfl, .inl ⟨ws, SqL.of e5, cr _ _ G1 m1 H1 e1 rh1 (jok_L fun m G2 H e2 rh2 sr => by
          obtain ⟨ws2, e6, q2⟩ := rh2.lst ((sr p rfl).trans hs)
          exact ⟨ws2, SqL.of e6, q2⟩) f⟩⟩
      · obtain ⟨ws, e5, q⟩ := rh1.tup hs
        exact ⟨_, rfl, .inr ⟨ws, SqT.of e5, cr _ _ G1 m1 H1 e1 rh1 (jok_T fun m G2 H e2 rh2 sr => by
          obtain ⟨ws2, e6, q2⟩ := rh2.tup ((sr p rfl).trans hs)
          exact ⟨ws2, SqT.of e6, q2⟩) f⟩⟩
    | v x => exact hs.elim
    | r s q =>
      cases hs
      exact ⟨_, rfl, .inl ⟨_, ex_l rh1.sub s, cr _ _ G1 m1 H1 e1 rh1 (jok_L fun m G2 H e2 rh2 _ => ⟨_, ex_l (e2.trans rh2.sub) s, RVs.mono e2 q.rvs⟩) f⟩⟩) cx)⟩
abbrev wkRange (lo : Int) (n : Nat) : Wk := ⟨n, fun i m F => F (.d (.int (lo + i))) m, fun _ => True⟩
theorem jok_R {G : Hp} {lo : Int} {n : Nat} : JOk K (Itr lo n) (wkRange lo n) G where
  go := fun i m G2 H _ _ _ hi => hi
  yld := fun i m G2 H x H' e rh s hi q F Q f cv => by
    obtain ⟨rfl, rfl⟩ := q
    exact cv.at rh (.d (.int _)) f
  stop := fun _ _ _ _ _ _ => Nat.le_refl _
abbrev xiRange1 (ta : XA) : XI := fun r m F P => ta r m (fun ys m1 => ∃ j : Int, ys = [.d (.int j)] ∧ -100000000 ≤ j ∧ j ≤ 100000000 ∧ F (wkRange 0 j.toNat) m1) P
theorem di_range1 {p : Pos} (hg : Gl X "range") (hm : X.mg "range" = none) (ha : DA X W [e] ta) (hs : starEach [e] X.env = [(false, eval e X.env)] := by rfl) : DI X W tg (.Call (.Name "range" p) [e] [] pos) (xiRange1 ta) := ⟨fun {G r m σ H F P R} rs rh hx cr cx =>
  si_of (pi_range1 hg hm sa_pa hs) (ha.run rs rh hx (fun vs ys G1 m1 H1 e1 rh1 rv1 ⟨j, q1, q2, q3, q4⟩ => by
    subst q1
    obtain ⟨v, rfl, r1⟩ := rvs1 rv1
    cases r1.int
    exact ⟨j, rfl, by omega, by omega, cr _ _ G1 m1 H1 e1 rh1 jok_R q4⟩) cx)⟩
abbrev xiRange2 (ta : XA) : XI := fun r m F P => ta r m (fun ys m1 => ∃ i j : Int, ys = [.d (.int i), .d (.int j)] ∧ (-100000000 ≤ i ∧ i ≤ 100000000 ∧ -100000000 ≤ j ∧ j ≤ 100000000) ∧ F (wkRange i (j - i).toNat) m1) P
theorem di_range2 {p : Pos} (hg : Gl X "range") (hm : X.mg "range" = none) (ha : DA X W [e, e2] ta) (hs : starEach [e, e2] X.env = [(false, eval e X.env), (false, eval e2 X.env)] := by rfl) (hs2 : starEach [e2] X.env = [(false, eval e2 X.env)] := by rfl) :
    DI X W tg (.Call (.Name "range" p) [e, e2] [] pos) (xiRange2 ta) := ⟨fun {G r m σ H F P R} rs rh hx cr cx =>
  si_of (pi_range2 hg hm sa_pa hs hs2) (ha.run rs rh hx (fun vs ys G1 m1 H1 e1 rh1 rv1 ⟨i, j, q1, q2, q4⟩ => by
    subst q1
    obtain ⟨v, w, rfl, r1, r2⟩ := rvs2 rv1
    cases r1.int; cases r2.int
    exact ⟨i, j, rfl, by omega, cr _ _ G1 m1 H1 e1 rh1 jok_R q4⟩) cx)⟩
/-- a list that is read, at each state that keeps it -/
abbrev LsR (m : Mu) : Y → List Y → Prop
  | .d (.list ds), ys => ys = ds.map Y.d
  | .r ds, ys => ys = ds.map Y.d
  | .l p, ys => m p = some (.lst ys)
  | _, _ => False
theorem lsR_ok {G H1 : Hp} {v : V} {y : Y} {ys : List Y} {m1 : Mu} (rh : Rh K G m1 H1) (rv : RV K G v y) (h : LsR m1 y ys) : ∃ a, v = .ref a ∧ (∃ vs, SqL K H1 a vs) ∧
    ∀ m G2 H, Ex G G2 → Rh K G2 m H → (∀ p, y = .l p → m p = m1 p) → ∃ vs, SqL K H a vs ∧ RVs K G2 vs ys := by
  cases rv with
  | d q =>
    cases q with
    | lst s q => cases h; exact ⟨_, rfl, ⟨_, .inl (rd_sub rh s)⟩, fun m G2 H e2 rh2 _ => ⟨_, .inl (rd_sub rh2 (ex_rd e2 s)), RVs.mono e2 q.rvs⟩⟩
    | _ => exact h.elim
  | l p =>
    obtain ⟨ws, e5, q⟩ := rh.lst h
    exact ⟨_, rfl, ⟨ws, SqL.of e5⟩, fun m G2 H e2 rh2 sr => by
      obtain ⟨ws2, e6, q2⟩ := rh2.lst ((sr p rfl).trans h)
      exact ⟨ws2, SqL.of e6, q2⟩⟩
  | v x => exact h.elim
  | r s q => cases h; exact ⟨_, rfl, ⟨_, ex_l rh.sub s⟩, fun m G2 H e2 rh2 _ => ⟨_, ex_l (e2.trans rh2.sub) s, RVs.mono e2 q.rvs⟩⟩
abbrev wkEnum (m1 : Mu) (y : Y) (ys : List Y) : Wk := ⟨ys.length, fun i m F => ∃ z, ys[i]? = some z ∧ mkT [.d (.int (i : Nat)), z] m F, fun m => ∀ p, y = .l p → m p = m1 p⟩
abbrev xiEnum (ta : XA) : XI := fun r m F P => ta r m (fun ys m1 => ∃ y zs, ys = [y] ∧ LsR m1 y zs ∧ F (wkEnum m1 y zs) m1) P
theorem di_enum {p tpos : Pos} {elts : List Expr} {kk : Nat} (hg : Gl X "enumerate") (hm : X.mg "enumerate" = none) (ha : DA X W [e] ta) (hs : starEach [e] X.env = [(false, eval e X.env)] := by rfl) :
    DI X W (.Tuple elts kk tpos) (.Call (.Name "enumerate" p) [e] [] pos) (xiEnum ta) := ⟨fun {G r m σ H F P R} rs rh hx cr cx =>
  si_of (pi_enum hg hm sa_pa hs) (ha.run rs rh hx (fun vs ys G1 m1 H1 e1 rh1 rv1 ⟨y, zs, q1, q2, q3⟩ => by
    subst q1
    obtain ⟨v, rfl, r1⟩ := rvs1 rv1
    obtain ⟨a, rfl, ⟨vs, hv⟩, hk⟩ := lsR_ok rh1 r1 q2
    refine ⟨a, vs, rfl, hv, cr _ _ G1 m1 H1 e1 rh1 ⟨fun i m G2 H e rh s hi => ?_, fun i m G2 H x H' e rh s hi q F Q f cv => ?_, fun m G2 H e rh s => ?_⟩ q3⟩
    · obtain ⟨vs, h1, h2⟩ := hk m G2 H e rh s
      have hi' : i < vs.length := by rw [h2.length]; exact hi
      exact ⟨vs, vs[i], h1, by simp [hi']⟩
    · obtain ⟨vs, h1, h2⟩ := hk m G2 H e rh s
      obtain ⟨T, x0, rfl, hT, rfl, q2⟩ := q
      obtain ⟨z, hz, f⟩ := f
      obtain ⟨w, hw, rw⟩ := RVs.get h2 hz
      have e1 := q2 vs h1
      rw [hw] at e1; cases e1
      exact mkT_ok rh (.cons (.d (.int _)) (.cons rw .nil)) hT f cv
    · obtain ⟨vs, h1, h2⟩ := hk m G2 H e rh s
      exact ⟨vs, h1, by rw [h2.length]; exact Nat.le_refl _⟩) cx)⟩
end

/-! ### for -/
section
variable {X : Cx} {W : WX} {tg e it : Expr} {body : List Stmt} {pos : Pos} {t : XE} {ti : XI} {g : XG} {tb : XS}
abbrev xFor (ti : XI) (g : XG) (tb : XS) : XS := fun D r m => ti r m (fun k m1 => ∃ Z : Nat → Ro → Mu → Prop, Z 0 r m1 ∧ ∀ i r m, i ≤ k.n → Z i r m → k.src m ∧
  (i < k.n → k.itm i m (fun y m' => g y r m' (fun r2 m2 => tb { D with nx := Z (i + 1), ct := Z (i + 1), bk := D.nx } r2 m2))) ∧ (i = k.n → D.nx r m)) (D.at r)
theorem ds_for (hp : PassesOwn (model X.prog X.w) X.A X.env X.xe) (hc : X.calm = true) (hi : DI X W tg it ti) (hg : DG X tg g) (hb : DSs X W body tb) (hs : ∀ x, foldedSetIterable it X.env x = pure x := by intro _; rfl) :
    DS X W (.For tg it body [] pos) (xFor ti g tb) := ⟨fun {G r m σ H D E} rs rh hx f =>
  ss_of (ps_for hp hc si_pi sg_pg sss_pss hs) (hi.run rs rh hx (fun J k G1 m1 H1 e1 rh1 jk ⟨Z, z0, zs⟩ => by
    refine ⟨fun i n σ' H' => n = k.n - i ∧ i ≤ k.n ∧ ∃ G' r' m', Ex G1 G' ∧ Rs X.K G' σ' r' ∧ Rh X.K G' m' H' ∧ Z i r' m', ⟨k.n, by simp, Nat.zero_le _, G1, r, m1, Ex.refl _, rs.mono e1, rh1, z0⟩, ?_⟩
    rintro i n σ' H' ⟨rfl, hi', G', r', m', e2, rs2, rh2, z⟩
    obtain ⟨z1, z2, z3⟩ := zs i r' m' hi' z
    by_cases hlt : i < k.n
    · refine .inr ⟨jk.go i m' G' H' e2 rh2 z1 hlt, fun σ3 H3 => ∃ G3 r3 m3, Ex G1 G3 ∧ Rs X.K G3 σ3 r3 ∧ Rh X.K G3 m3 H3 ∧ Z (i + 1) r3 m3, fun σ3 H3 q => ⟨k.n - (i + 1), by omega, rfl, by omega, q⟩, fun x H3 hy => ?_⟩
      refine jk.yld i m' G' H' x H3 e2 rh2 z1 hlt hy _ (fun x H3 => SG X tg x σ' H3 _) (z2 hlt) fun v y G3 m3 H4 e3 rh3 rv3 q3 => ?_
      refine hg.run (rs2.mono e3) rh3 rv3 q3 fun σ5 r5 G5 m5 H5 e5 rs5 rh5 q5 => ?_
      have up : Ex G G5 := ((e1.trans e2).trans e3).trans e5
      have up1 : Ex G1 G5 := (e2.trans e3).trans e5
      exact hb.run rs5 rh5 q5 ⟨fun σ6 r6 G6 m6 H6 e6 rs6 rh6 q6 => ⟨G6, r6, m6, up1.trans e6, rs6, rh6, q6⟩, (f.mono up).rt, (f.mono up).nx, fun σ6 r6 G6 m6 H6 e6 rs6 rh6 q6 => ⟨G6, r6, m6, up1.trans e6, rs6, rh6, q6⟩, (f.mono up).ex⟩
    · have hn : i = k.n := by omega
      subst hn
      exact .inl ⟨jk.stop m' G' H' e2 rh2 z1, f.nx _ _ G' m' H' (e1.trans e2) rs2 rh2 (z3 rfl)⟩) (f.cx rs))⟩
abbrev xWhile (c : XT) (tb : XS) : XS := fun D r m => ∃ Z : Nat → Ro → Mu → Prop, (∃ n, Z n r m) ∧ ∀ n r m, Z n r m → c r m (fun k m1 => if k = true then tb { D with nx := fun r' m' => ∃ n', n' < n ∧ Z n' r' m', ct := fun r' m' => ∃ n', n' < n ∧ Z n' r' m', bk := D.nx } r m1 else D.nx r m1) (D.at r)
theorem ds_while {c : Expr} {tc : XT} (hp : PassesOwn (model X.prog X.w) X.A X.env X.xe) (hc : DT X W c tc) (hb : DSs X W body tb) : DS X W (.While c body [] pos) (xWhile tc tb) := ⟨fun {G r m σ H D E} rs rh ⟨Z, ⟨n0, z0⟩, zs⟩ f =>
  ss_of (ps_while hp st_pt sss_pss) ⟨fun n σ' H' => ∃ G' r' m', Ex G G' ∧ Rs X.K G' σ' r' ∧ Rh X.K G' m' H' ∧ Z n r' m', ⟨n0, G, r, m, Ex.refl _, rs, rh, z0⟩, fun n σ' H' ⟨G', r', m', e1, rs1, rh1, z⟩ =>
    hc.run rs1 rh1 (zs n r' m' z) (fun k G2 m2 H2 e2 rh2 q => by
      cases k with
      | true =>
        refine ⟨fun σ3 H3 => ∃ n', n' < n ∧ ∃ G3 r3 m3, Ex G G3 ∧ Rs X.K G3 σ3 r3 ∧ Rh X.K G3 m3 H3 ∧ Z n' r3 m3, fun σ3 H3 ⟨n', h, q⟩ => ⟨n', h, q⟩, ?_⟩
        have up : Ex G G2 := e1.trans e2
        exact hb.run (rs1.mono e2) rh2 q ⟨fun σ6 r6 G6 m6 H6 e6 rs6 rh6 ⟨n', h, q6⟩ => ⟨n', h, G6, r6, m6, up.trans e6, rs6, rh6, q6⟩, (f.mono up).rt, (f.mono up).nx, fun σ6 r6 G6 m6 H6 e6 rs6 rh6 ⟨n', h, q6⟩ => ⟨n', h, G6, r6, m6, up.trans e6, rs6, rh6, q6⟩, (f.mono up).ex⟩
      | false => exact f.nx _ _ G2 m2 H2 (e1.trans e2) (rs1.mono e2) rh2 q) ((f.mono e1).cx rs1)⟩⟩
end

/-! ### list comprehensions -/
/-- a target of a comprehension: it touches its own slots alone -/
def DGw (K : PySem.W.Frag) (vs : List Nat) (g : TG) (x : XG) : Prop := ∀ {G : Hp} {r : Ro} {m : Mu} {σ : L2.St} {H : Hp} {v : V} {y : Y} {F : Ro → Mu → Prop} {Q : L2.St → Hp → Prop}, Rs K G σ r → Rh K G m H → RV K G v y → x y r m F →
  (∀ σ' r' G' m' H', Ex G G' → Rs K G' σ' r' → Rh K G' m' H' → wipe σ' vs = wipe σ vs → F r' m' → Q σ' H') → g v σ H Q
def DGws (K : PySem.W.Frag) (vs : List Nat) (g : TGs) (x : XGs) : Prop := ∀ {G : Hp} {r : Ro} {m : Mu} {σ : L2.St} {H : Hp} {ws : List V} {ys : List Y} {F : Ro → Mu → Prop} {Q : L2.St → Hp → Prop}, Rs K G σ r → Rh K G m H → RVs K G ws ys → x ys r m F →
  (∀ σ' r' G' m' H', Ex G G' → Rs K G' σ' r' → Rh K G' m' H' → wipe σ' vs = wipe σ vs → F r' m' → Q σ' H') → g ws σ H Q
theorem wipe_set {i : Nat} {o : Option V} : ∀ {vs : List Nat} (σ : L2.St), i ∈ vs → wipe (σ.set i o) vs = wipe σ vs
  | [], _, h => absurd h (by simp)
  | v :: vs, σ, h => by
    show (wipe (σ.set i o) vs).set v none = (wipe σ vs).set v none
    by_cases z : i ∈ vs
    · rw [wipe_set σ z]
    · have e : i = v := by simpa [z] using h
      subst e
      have comm : ∀ (us : List Nat), i ∉ us → wipe (σ.set i o) us = (wipe σ us).set i o := by
        intro us
        induction us with
        | nil => intro _; rfl
        | cons w us ih =>
          intro hn
          simp only [List.mem_cons, not_or] at hn
          show (wipe (σ.set i o) us).set w none = ((wipe σ us).set w none).set i o
          rw [ih hn.2, List.set_comm _ _ hn.1]
      rw [comm vs z, List.set_set]
section
variable {K : PySem.W.Frag} {vs : List Nat} {g : TG} {gs : TGs} {x : XG} {xs : XGs}
theorem dgw_name {i : Nat} (h : i ∈ vs) : DGw K vs (gName i) (xgName i) := fun {G r m σ H v y F Q} rs rh rv hx k => k _ _ G m H (Ex.refl G) (rs.set rv i) rh (wipe_set σ h) hx
theorem dgw_nil : DGws K vs gNil xgNil := fun {G r m σ H ws ys F Q} rs rh rv ⟨e, h⟩ k => by
  subst e; cases rv
  exact ⟨rfl, k _ _ G m H (Ex.refl G) rs rh rfl h⟩
theorem dgw_cons (h1 : DGw K vs g x) (h2 : DGws K vs gs xs) : DGws K vs (gCons g gs) (xgCons x xs) := fun {G r m σ H ws ys F Q} rs rh rv ⟨y, zs, e1, h⟩ k => by
  subst e1
  cases rv with
  | cons r1 r2 => exact ⟨_, _, rfl, h1 rs rh r1 h fun σ1 r3 G1 m1 H1 e1 rs1 rh1 w1 q => h2 rs1 rh1 (RVs.mono e1 r2) q fun σ2 r4 G2 m2 H2 e2 rs2 rh2 w2 q2 => k _ _ G2 m2 H2 (e1.trans e2) rs2 rh2 (w2.trans w1) q2⟩
theorem dgw_tup {n : Nat} (h : DGws K vs gs xs) : DGw K vs (gTup K n gs) (xgTup n xs) := fun {G r m σ H v y F Q} rs rh rv ⟨ys, h1, h2, h3, h4, h5, h6⟩ k => by
  have z : ∃ p us, v = .ref p ∧ SqT K H p us ∧ RVs K G us ys := by
    cases rv with
    | d q =>
      cases q with
      | tup s q => cases h1; exact ⟨_, _, rfl, ex_t rh.sub s, q.rvs⟩
      | lst s q => exact absurd rfl (h2 _)
      | _ => exact h1.elim
    | l p =>
      obtain ⟨ws, e, q⟩ := rh.tup (h3 p rfl)
      exact ⟨p, ws, rfl, SqT.of e, q⟩
    | v x => exact h1.elim
    | r s q => exact absurd rfl (h4 _)
  obtain ⟨p, us, rfl, s1, q⟩ := z
  exact ⟨p, us, rfl, s1, by rw [q.length]; exact h5, h rs rh q h6 k⟩
theorem Rs.wipe {G : Hp} : ∀ {σ : L2.St} {r : Ro} (vs : List Nat), Rs K G σ r → Rs K G (L2.wipe σ vs) (vs.foldr (fun v r => r.set v none) r)
  | _, _, [], h => h
  | _, _, v :: vs, h => Rs.wipe1 v (Rs.wipe vs h)
end
/-- the hand layer's readings of a data transformer, whatever the block -/
def TEof (K : PySem.W.Frag) (W : WX) (t : XE) : TE := fun σ H Q => ∃ G r m F P, Rs K G σ r ∧ Rh K G m H ∧ t r m F P ∧ CvE K G F Q ∧ CvX K G P (WEx W σ)
def TTof (K : PySem.W.Frag) (W : WX) (t : XT) : TT := fun σ H Q => ∃ G r m F P, Rs K G σ r ∧ Rh K G m H ∧ t r m F P ∧ CvT K G F Q ∧ CvX K G P (WEx W σ)
abbrev W0 : WX := fun _ _ _ _ => False
abbrev P0 : XP := fun _ _ _ => False
abbrev wipeR (r : Ro) (vs : List Nat) : Ro := vs.foldr (fun v r => r.set v none) r
abbrev xYes : XT := fun _ m F _ => F true m
/-- the new list at D while it grows -/
abbrev xLcW (fin : Addr → List Y → Mu → (Y → Mu → Prop) → Prop) (ti : XI) (g : XG) (tt : XT) (te : XE) (vs : List Nat) : XE := fun r m F P => ti r m (fun k m1 => ∀ D, m1 D = none → ∃ Z : Nat → List Y → Mu → Prop, Z 0 [] (mu m1 D (.lst [])) ∧
  ∀ i acc M, i ≤ k.n → Z i acc M → M D = some (.lst acc) ∧ k.src M ∧ (i < k.n → k.itm i M (fun y M1 => g y (wipeR r vs) M1 (fun r2 M2 => tt r2 M2 (fun b M3 =>
    if b = true then te r2 M3 (fun z M4 => M4 D = some (.lst acc) ∧ acc.length < 10000 ∧ Z (i + 1) (acc ++ [z]) (mu M4 D (.lst (acc ++ [z])))) P0 else Z (i + 1) acc M3) P0))) ∧ (i = k.n → fin D acc M F)) P
abbrev finM : Addr → List Y → Mu → (Y → Mu → Prop) → Prop := fun D _ M F => F (.l D) M
abbrev finD : Addr → List Y → Mu → (Y → Mu → Prop) → Prop := fun D acc M F => ∃ ds, acc = ds.map Y.d ∧ F (.d (.list ds)) (fun b => if b = D then none else M b)
structure FinOk (fin : Addr → List Y → Mu → (Y → Mu → Prop) → Prop) : Prop where
  ok : ∀ {K : PySem.W.Frag} {G H : Hp} {M : Mu} {D : Addr} {acc : List Y} {F : Y → Mu → Prop} {Q : VK}, Rh K G M H → M D = some (.lst acc) → fin D acc M F → CvE K G F Q → Q (.ref D) H
theorem finM_ok : FinOk finM := ⟨fun {K G H M D acc F Q} rh hd h cv => cv.at rh (.l D) h⟩
theorem finD_ok : FinOk finD := ⟨fun {K G H M D acc F Q} rh hd ⟨ds, e, h⟩ cv => by
  subst e
  obtain ⟨G', e1, r1, v1⟩ := rh.frz hd
  exact cv _ _ G' _ H e1 r1 v1 h⟩
section
variable {X : Cx} {W : WX} {elt tg iter : Expr} {ifs : List Expr} {scope : Scope} {own : List (Str × Nat)} {pos : Pos} {ti : XI} {g : TG} {xg : XG} {tt : XT} {te : XE} {fin : Addr → List Y → Mu → (Y → Mu → Prop) → Prop}
theorem lc_read {σ : L2.St} {H : Hp} {vs : List Nat} {G : Hp} {r : Ro} {m : Mu} {F : Y → Mu → Prop} {P : XP} {Q : VK} (hf : FinOk fin) (hi : DI X W tg iter ti) (hw : DGw X.K vs g xg) (rs : Rs X.K G σ r) (rh : Rh X.K G m H) (hx : xLcW fin ti xg tt te vs r m F P) (cv : CvE X.K G F Q) (cx : CvX X.K G P (WEx W σ)) :
    tLc (SI X tg iter) g (TTof X.K W0 tt) (TEof X.K W0 te) vs σ H Q := by
  refine hi.run rs rh hx (fun J k G1 m1 H1 e1 rh1 jk hz D hD => ?_) cx
  obtain ⟨Z, z0, zs⟩ := hz D (rh1.free hD).2
  refine ⟨fun i n H' => n = k.n - i ∧ i ≤ k.n ∧ ∃ G' acc M, Ex G1 G' ∧ Rh X.K G' M H' ∧ Z i acc M, ⟨k.n, by simp, Nat.zero_le _, G1, [], _, Ex.refl _, rh1.new hD (.lst .nil), z0⟩, ?_⟩
  rintro i n H' ⟨rfl, hi', G', acc, M, e2, rh2, z⟩
  obtain ⟨z1, z2, z3, z4⟩ := zs i acc M hi' z
  by_cases hlt : i < k.n
  · refine .inr ⟨jk.go i M G' H' e2 rh2 z2 hlt, fun H3 => ∃ G3 acc3 M3, Ex G1 G3 ∧ Rh X.K G3 M3 H3 ∧ Z (i + 1) acc3 M3, fun H3 q => ⟨k.n - (i + 1), by omega, rfl, by omega, q⟩, fun x H3 hy => ?_⟩
    refine jk.yld i M G' H' x H3 e2 rh2 z2 hlt hy _ (fun x H3 => g x (wipe σ vs) H3 _) (z3 hlt) fun v y G3 m3 H4 e3 rh3 rv3 q3 => ?_
    have rsw : Rs X.K G3 (wipe σ vs) (wipeR r vs) := Rs.wipe vs (rs.mono ((e1.trans e2).trans e3))
    refine hw rsw rh3 rv3 q3 fun σ5 r5 G5 m5 H5 e5 rs5 rh5 w5 q5 => ⟨?_, G5, r5, m5, _, P0, rs5, rh5, q5, fun b G6 m6 H6 e6 rh6 q6 => ?_, fun _ _ _ _ _ _ _ _ _ z => z⟩
    · rw [w5]
      have ww : ∀ (us : List Nat), (∀ x ∈ us, x ∈ vs) → wipe (wipe σ us) vs = wipe σ vs := by
        intro us
        induction us with
        | nil => intro _; rfl
        | cons a us ih => intro hu; exact (wipe_set _ (hu a (by simp))).trans (ih fun x hx => hu x (by simp [hx]))
      exact ww vs fun x hx => hx
    · have up : Ex G1 G6 := ((e2.trans e3).trans e5).trans e6
      cases b with
      | true =>
        refine ⟨G6, r5, m6, _, P0, rs5.mono e6, rh6, q6, fun u y G7 m7 H7 e7 rh7 rv7 ⟨q7, q8, q9⟩ => ?_, fun _ _ _ _ _ _ _ _ _ z => z⟩
        obtain ⟨ws, ew, rw⟩ := rh7.lst q7
        exact ⟨ws, ew, by rw [rw.length]; exact Nat.lt_of_lt_of_le q8 szl, G7, _, _, up.trans e7, rh7.write q7 (.lst (rw.app (.cons rv7 .nil))), q9⟩
      | false => exact ⟨G6, acc, m6, up, rh6, q6⟩
  · have hn : i = k.n := by omega
    subst hn
    exact .inl ⟨jk.stop M G' H' e2 rh2 z2, hf.ok rh2 z1 (z4 rfl) (cv.mono (e1.trans e2))⟩
abbrev Blk (X : Cx) (scope : Scope) (e : Cx → Prop) : Prop := ∀ (s : Shared) (H : Hp) (C : Addr) (cl : List (Str × Addr)) (fp : List Addr), e (X.blk s H scope (compEnvC scope cl C X.env) fp)
structure DTs (X : Cx) (ifs : List Expr) (t : XT) : Prop where
  run : PTs X ifs (TTof X.K W0 t)
theorem dts_nil : DTs X [] xYes := ⟨⟨fun pins s σ H Q I ⟨G, r, m, F, P, rs, rh, h, cv, cx⟩ => pts_nil.run pins s σ H Q I (cv true G m H (Ex.refl G) rh h)⟩⟩
theorem dts_one {c : Expr} (h : DT X W0 c tt) : DTs X [c] tt := ⟨⟨fun pins s σ H Q I ⟨G, r, m, F, P, rs, rh, q, cv, cx⟩ => (pts_one st_pt).run pins s σ H Q I (h.run rs rh q cv cx)⟩⟩
theorem teof_pe {e : Expr} (h : DE X W0 e te) : PE X e (TEof X.K W0 te) := ⟨fun pins s σ H Q I ⟨G, r, m, F, P, rs, rh, q, cv, cx⟩ => h.run rs rh q cv cx pins s I⟩
theorem de_lc (hf : FinOk fin) (hc : X.calm = true) (hN : X.N.Nodup) (hi : DI X W tg iter ti) (ok : BlkOk X.N X.env.scope scope own) (hg : Blk X scope fun X' => PG X' tg g) (hw : DGw X.K (own.map (·.2)) g xg) (ht : Blk X scope fun X' => DTs X' ifs tt) (he : Blk X scope fun X' => DE X' W0 elt te)
    (hs : ∀ x, foldedSetIterable iter X.env x = pure x := by intro _; rfl) : DE X W (.ListComp elt [⟨tg, iter, ifs, 0⟩] scope pos) (xLcW fin ti xg tt te (own.map (·.2))) := ⟨fun {G r m σ H F P Q} rs rh hx cv cx =>
  se_of (pe_lc hc hN si_pi ok hg (fun s H C cl fp => (ht s H C cl fp).run) (fun s H C cl fp => teof_pe (he s H C cl fp)) hs) (lc_read hf hi hw rs rh hx cv cx)⟩
/-- name = [..] -/
theorem ds_setLc {i : Nat} {y : Str} {py spos : Pos} (hf : FinOk fin) (hc : X.calm = true) (hN : X.N.Nodup) (hy : X.N[i]? = some y) (hyl : X.env.scope.names.lookup y = some .local)
    (hsw : swapsWith (.ListComp elt [⟨tg, iter, ifs, 0⟩] scope pos) (some (.Name y py)) spos.line X.env = pure true) (hi : DI X W tg iter ti) (ok : BlkOk X.N X.env.scope scope own) (hg : Blk X scope fun X' => PG X' tg g) (hw : DGw X.K (own.map (·.2)) g xg)
    (ht : Blk X scope fun X' => DTs X' ifs tt) (he : Blk X scope fun X' => DE X' W0 elt te) (hs : ∀ x, foldedSetIterable iter X.env x = pure x := by intro _; rfl) :
    DS X W (.Assign [.Name y py] (.ListComp elt [⟨tg, iter, ifs, 0⟩] scope pos) spos) (xAsg (xLcW fin ti xg tt te (own.map (·.2))) (xgName i)) := ⟨fun {G r m σ H D E} rs rh hx f =>
  ss_of (ps_setLc hc hN hy hyl hsw si_pi ok hg (fun s H C cl fp => (ht s H C cl fp).run) (fun s H C cl fp => teof_pe (he s H C cl fp)) hs)
    (lc_read hf hi hw rs rh hx (fun v z G1 m1 H1 e1 rh1 rv1 q => f.nx _ _ G1 m1 H1 e1 ((rs.mono e1).set rv1 i) rh1 q) (f.cx rs))⟩
end
end Dl
/-! D8: repr, sorted, methods, exceptions, a def by its body, the law's end. -/
namespace Dl
open PySem PySem.Spec PyProof.Rows L2 Evl

/-! ### what is read off as data -/
section
variable {X : Cx} {K : PySem.W.Frag} {G H : Hp} {m : Mu} {pins : List (Addr × Obj)} {σ : L2.St} {s : Shared}
mutual
theorem Da.reads (I : Inv X pins σ H s) : ∀ {v : V} {d : PyData} {u : Value}, d.hasDict = false → Da X.K H v d → RelV v u → ∃ as, Reads s.heap u d as
  | _, _, _, _, .non, r => by cases r; exact ⟨_, .none⟩
  | _, _, _, _, .bl b, r => by cases r; exact ⟨_, .bool b⟩
  | _, _, _, _, .int i, r => by obtain ⟨t, rfl⟩ := r; exact ⟨_, .int i t⟩
  | _, _, _, _, .str x, r => by obtain ⟨t, rfl⟩ := r; exact ⟨_, .str x t⟩
  | _, _, _, nd, .lst q h, r => by
    cases r
    obtain ⟨its, rv, ⟨o, n, e, c, _, dt⟩, _⟩ := I.list (.inl q)
    obtain ⟨as, hr⟩ := DaAll.reads I (by simpa [PyData.hasDict] using nd) h rv
    exact ⟨_, .list e c dt (by simpa using hr)⟩
  | _, _, _, nd, .tup q h, r => by
    cases r
    obtain ⟨its, rv, ⟨o, e, c, n, dt⟩, _⟩ := I.tuple q
    obtain ⟨as, hr⟩ := DaAll.reads I (by simpa [PyData.hasDict] using nd) h rv
    exact ⟨_, .tuple e c dt (by simpa using hr)⟩
  | _, _, _, nd, .dic _ _ _ _, _ => by simp [PyData.hasDict] at nd
theorem DaAll.reads (I : Inv X pins σ H s) : ∀ {vs : List V} {ds : List PyData} {us : List Value}, PyData.hasDictAll ds = false → DaAll X.K H vs ds → Vals vs us → ∃ as, ReadsAll s.heap us ds as
  | _, _, _, _, .nil, r => by cases r; exact ⟨_, .nil⟩
  | _, _, _, nd, .cons h t, r => by
    cases r with
    | cons r1 r2 =>
      simp [PyData.hasDictAll] at nd
      obtain ⟨as, q1⟩ := Da.reads I nd.1 h r1
      obtain ⟨bs, q2⟩ := DaAll.reads I nd.2 t r2
      exact ⟨_, .cons q1 q2⟩
end
/-! a bound of a shown text's length -/
mutual
def cst : PyData → Nat
  | .none => 4 | .bool _ => 5 | .int _ => 2000 | .str x => (reprText x).length | .list ds => 3 + cstA ds | .tuple ds => 3 + cstA ds | .dict _ => 0
def cstA : List PyData → Nat
  | [] => 0 | d :: ds => cst d + 2 + cstA ds
end
end

/-! ### a def, by its body -/
abbrev startY (N : List Str) (ys : List Y) : Ro := ys.map some ++ List.replicate (N.length - ys.length) none
theorem start_rs {K : PySem.W.Frag} {G : Hp} {N : List Str} {vs : List V} {ys : List Y} (r : RVs K G vs ys) : Rs K G (L2.start N vs) (startY N ys) := by
  have rep : ∀ n : Nat, Rs K G (List.replicate n none) (List.replicate n none) := by
    intro n
    induction n with
    | zero => exact .nil
    | succ n ih => exact .cons (.any _) ih
  have app : ∀ {a : L2.St} {b : Ro} {c : L2.St} {d : Ro}, Rs K G a b → Rs K G c d → Rs K G (a ++ c) (b ++ d) := by
    intro a b c d h1 h2
    induction h1 with
    | nil => exact h2
    | cons h t ih => exact .cons h ih
  have mp : ∀ {vs : List V} {ys : List Y}, RVs K G vs ys → Rs K G (vs.map some) (ys.map some) := by
    intro vs ys h
    induction h with
    | nil => exact .nil
    | cons h t ih => exact .cons (.is h) ih
  unfold L2.start startY
  rw [r.length]
  exact app (mp r) (rep _)
abbrev WE1 (E : XK) : WX := fun c d _ H => E c d H
section
variable {pr : Program} {w : World} {K : PySem.W.Frag} {mg : Str → Option Value} {base : Heap}
abbrev cxD (pr : Program) (w : World) (K : PySem.W.Frag) (mg : Str → Option Value) (base : Heap) (N : List Str) (qual : Str) (sc : Scope) (f : Addr) (cd : Value) (A : Around) (outer : List Env) (s : Shared) (H : Hp) (E : XK) : Cx := cxOf (L2.CX pr w) pr w K mg base N qual sc f cd A outer s H E
/-- what a body's derivation may lean on -/
structure Bx (X : Cx) (W : WX) (k : Nat) : Prop where
  hr : Room k X.A
  gd : X.A.guards = some []
  tk : Takes X W
theorem Fun.dok {x qual : Str} {st : Stmt} {f : Addr} {fd : FuncData} {N ps : List Str} {k : Nat} {d : DSp} (F : Fun K x qual st f fd) (S : FnScope N ps (defScope st)) (t : XS)
    (hb : ∀ (cdv : Value) (A : Around) (outer : List Env) (s : Shared) (H : Hp) (E : XK), Bx (cxD pr w K mg base N qual (defScope st) f cdv A outer s H E) (WE1 E) k → PassesOwn (model pr w) (cxD pr w K mg base N qual (defScope st) f cdv A outer s H E).A (cxD pr w K mg base N qual (defScope st) f cdv A outer s H E).env (cxD pr w K mg base N qual (defScope st) f cdv A outer s H E).xe →
      DSs (cxD pr w K mg base N qual (defScope st) f cdv A outer s H E) (WE1 E) (defBody st) t)
    (vc : ∀ ys m F P, d ys m F P → ys.length = ps.length ∧ t { nx := fun _ m => F (.d .none) m, rt := F, ex := fun c fs _ m => P c fs m } (startY N ys) m) : FnD pr w K mg base (k + 1) f fd ps d := by
  obtain ⟨oc, od, kV, doc, pm, an, cdv, ct, osl, rfl, lk, hcd⟩ := F.ex
  refine ⟨fun ys m F P h => (vc ys m F P h).1, fun A outer s H args us vs Q E hg hr e0 hbd r hsp => ?_⟩
  obtain ⟨G, m, ys, Fy, P, rh, rv, hd, cv, cx⟩ := hsp
  obtain ⟨hl, hvc⟩ := vc ys m Fy P hd
  have hlv : vs.length = ps.length := by rw [RVs.length rv]; exact hl
  have KX : K.In s.heap := e0.mod.kin.keeps fun b o e => (e0.bs b o e).1
  have hkind : ∀ y ∈ ps.zip us, (defScope st).names.lookup y.1 = some .local ∨ ((defScope st).names.lookup y.1 = some .cell ∧ ((cellsFrom (s.heap.objs.size + 1) (defScope st).names []).lookup y.1).isSome = true) := by
    rintro ⟨n, v⟩ hy
    exact (S.par n (List.of_mem_zip hy).1).imp id fun q => ⟨q, PySem.W.cellsFrom_some _ _ _ (.inl q)⟩
  refine codeAny_call_function hr.depth (KX _ _ lk) rfl S.co S.gen rfl (PySem.W.codeRec_of KX hcd) (hbd _ _ _ _ ?_)
  refine wpAny_newFunctionEnv_cells S.kind hkind fun env he s1 x => ?_
  subst he
  refine ⟨(e0.mod.nolimit.keeps fun b o e => (e0.bs b o e).1).keeps x.toInCall.keep, codeAny_func ?_⟩
  have gd : (A.deeper (envOfC qual (defScope st) s.heap.objs.size f cdv)).guards = some [] := hg
  have hbx : Bx (cxD pr w K mg base N qual (defScope st) f cdv A outer s H E) (WE1 E) k := ⟨hr.deeper _, gd, takes_of rfl rfl rfl rfl⟩
  have I := inv_start (CX := L2.CX pr w) (E := E) S hr.hd e0 hlv r x
  have go := (hb cdv A outer s H E hbx (passes_of rfl)).run (E := { nx := fun _ H' => Q .non H', rt := Q }) (start_rs (N := N) rv) rh hvc
    ⟨fun σ r G' m H' e1 _ rh1 q => cv .non _ G' m H' e1 rh1 (.d .non) q, fun v y G' m H' e1 rh1 rv1 q => cv v y G' m H' e1 rh1 rv1 q, fun _ _ _ _ _ _ _ _ q => q.elim, fun _ _ _ _ _ _ _ _ q => q.elim,
      fun c d fs σ r G' m H' e1 _ rh1 xf q => cx c d fs G' m H' e1 rh1 xf q⟩ [] s1 I
  have fin : ∀ {s' : Shared} {σ' : L2.St} {H' : Hp} {v : V} {u : Value}, Inv (cxD pr w K mg base N qual (defScope st) f cdv A outer s H E) [] σ' H' s' → RelV v u → Q v H' → CE outer pr w H s Q u s' :=
    fun J rv q => ⟨_, _, J.os, J.bare, J.base, J.hok, rv, q⟩
  refine wpAny_mono go (fun fl s' hs => ?_) fun e s' hs => hs
  match fl, hs with
  | .ret u, ⟨v, σ', H', J, rv, q⟩ => exact fin J rv q
  | .next, ⟨σ', H', J, q⟩ => exact fin (v := V.non) (u := Value.none) J rfl q
  | .brk, ⟨_, _, _, q⟩ => exact False.elim q
  | .cont, ⟨_, _, _, q⟩ => exact False.elim q
end

/-! ### the law's end -/
def dLaw : DSp := fun ys _ F _ => ∃ ns : List Int, ys = [.r (ns.map PyData.int)] ∧ ns.length ≤ 63 ∧ ∀ m', F (.d (.bool true)) m'
theorem law_end {P : Program} {w : World} {K : PySem.W.Frag} {mg mb : Str → Option Value} {k : Nat} {fa a : Addr} {fd : FuncData} {x : Str} {z : Shared} {us : List Value} {ns : List Int}
    (KX : K.In z.heap) (hns : z.heap.Ns mainGlobals mg) (hb : z.heap.Ns builtinsNs mb) (hbb : ∀ x : Str, x ≠ "__name__" → mb x = bootBuiltins x) (hlim : z.heap.NoLimit) (hg : z.gens = #[])
    (ha : z.heap.get? a = some { cls := .type "list", data := .seq us.toArray }) (hi : IntsAre us ns) (hl : ns.length ≤ 63) (hr : Room k callerA)
    (F : ∀ base : Heap, K.In base → base.Ns mainGlobals mg → FnD P w K mg base k fa fd [x] dLaw) (hbind : ∀ (s : Shared) (u : Value), BindsTo s fd ⟨[u], []⟩ [(x, u)]) :
    codeAny (model P w) callerA (.call (.ref fa) ⟨[.ref a], []⟩) (fun r s' => r = .ok (.ret (.bool true)) ∧ OldK z.heap s'.heap ∧ s'.os = z.os ∧ AllBare s'.gens) z := by
  have rv := vals_ints hi
  have lu := hi.length
  have l63 : ns.length ≤ sizeLine := Nat.le_trans hl (by decide)
  -- whichever abstract heap tracks at most the script
  have main : ∀ H : Hp, (∀ b, H b = none ∨ (b = a ∧ K.lookup b = none ∧ ∃ o xs, H b = some (.frz o (.lst xs)))) → SqL K H a (ns.map V.int) → HOk P w H z.heap →
      codeAny (model P w) callerA (.call (.ref fa) ⟨[.ref a], []⟩) (fun r s' => r = .ok (.ret (.bool true)) ∧ OldK z.heap s'.heap ∧ s'.os = z.os ∧ AllBare s'.gens) z := by
    intro H hO hS hok
    have hide : ∀ {b : Addr} {o : Obj}, z.heap.get? b = some o → H b = none → (hidT z.heap H).get? b = some o := fun e n => hidT_get e n
    have dictFree : ∀ {b : Addr} {o : Obj} {es : Array DictEntry} {ep : Nat}, z.heap.get? b = some o → o.data = .dict es ep → H b = none := fun {b o es ep} e d => by
      rcases hO b with q | ⟨rfl, _, _⟩
      · exact q
      · rw [ha] at e
        cases e
        have d' : Data.seq us.toArray _ = Data.dict es ep := d
        cases d'
    have nsOf : ∀ {b : Addr} {mm : Str → Option Value}, z.heap.Ns b mm → (hidT z.heap H).Ns b mm := fun {b mm} ⟨o, es, ep, e, d, q⟩ => ⟨o, es, ep, hide e (dictFree e d), d, q⟩
    have kin : K.In (hidT z.heap H) := fun b o e => hide (KX b o e) (by
      rcases hO b with q | ⟨_, q, _⟩
      · exact q
      · rw [q] at e; cases e)
    have md : Mod K mg (hidT z.heap H) := ⟨kin, nsOf hns, ⟨mb, nsOf hb, hbb⟩, by obtain ⟨mc, h1, h2⟩ := hlim; exact ⟨mc, nsOf h1, h2⟩⟩
    have e0 : Env0 P w K mg (hidT z.heap H) callerA [] z H := ⟨rfl, md, fun b o e => of_hidT e, Nat.le_of_eq (hidT_size _ _), trivial, (fun b q => nomatch q), hok, .of_eq hg⟩
    have want : cz K dLaw [.ref a] H (fun v _ => v = .bl true) (fun _ _ _ => False) :=
      ⟨H, fun _ => none, [.r (ns.map PyData.int)], fun y _ => y = .d (.bool true), P0, ⟨Ex.refl H, (fun _ _ q => nomatch q), (fun _ _ q => nomatch q), (fun _ _ q => nomatch q), fun b ps e => by rcases hO b with q | ⟨_, _, o, xs, q⟩ <;> rw [q] at e <;> cases e⟩, .cons (.r hS (DaAll.ints ns)) .nil, ⟨ns, rfl, hl, fun _ => rfl⟩,
        fun v y G' m' H' _ _ rv q => by subst q; exact rv.bl, fun _ _ _ _ _ _ _ _ _ q => q.elim⟩
    refine codeAny_mono ((F _ kin (nsOf hns)).run callerA [] z H ⟨[.ref a], []⟩ [.ref a] [.ref a] _ _ rfl hr e0 (hbind z (.ref a)) (.cons rfl .nil) want) fun r s' h => ?_
    match r, h with
    | .error e, ⟨_, _, _, _, _, _, _, _, _, _, _, _, q⟩ => exact q.elim
    | .ok .next, h => exact False.elim h
    | .ok .brk, h => exact False.elim h
    | .ok .cont, h => exact False.elim h
    | .ok (.ret u), ⟨v, H', os, bare, un, hok', r', q⟩ =>
      have q' : v = .bl true := q
      subst q'
      obtain rfl : u = Value.bool true := r'
      refine ⟨rfl, OldK.of_keep fun b o e => ?_, os, bare⟩
      rcases hO b with q | ⟨_, _, ob, xs, q⟩
      · exact un.keep b o e q (fun y => nomatch y) (fun y => nomatch y)
      · obtain ⟨e1, _⟩ := hok b _ q
        obtain ⟨e2, _⟩ := hok' b _ (un.frzs b ob _ q)
        rw [e] at e1
        cases e1
        exact e2
  cases hk : K.lookup a with
  | some o =>
    have e := KX a o hk
    rw [ha] at e
    cases e
    exact main (fun _ => none) (fun _ => .inl rfl) (.inr ⟨_, us.toArray, _, hk, rfl, rfl, rfl, by rw [List.size_toArray, lu]; exact l63, by simpa using rv⟩) fun b u q => nomatch q
  | none =>
    refine main (fun b => if b = a then some (.frz { cls := .type "list", data := .seq us.toArray } (.lst (ns.map V.int))) else none) (fun b => ?_) (.inl (.inr ⟨_, if_pos rfl⟩)) (fun b u q => ?_)
    · by_cases hba : b = a
      · subst hba
        exact .inr ⟨rfl, hk, _, _, if_pos rfl⟩
      · exact .inl (if_neg hba)
    · by_cases hba : b = a
      · subst hba
        have q' := (if_pos rfl).symm.trans q
        cases q'
        exact ⟨ha, by rw [List.length_map]; exact l63, us, _, rv, ha⟩
      · have q' := (if_neg hba).symm.trans q
        cases q'
/-- what k_head leaves, from the law's promise -/
theorem walk_d {l : PySem.W.OpenLaw} {k : Nat} {q : Program} {loose : List Str} {XP : (Str → Option Value) → Heap → Prop} {YP : World → Heap → Prop} {d : DefRec} {K : Params → PySem.W.Frag} {x : Str}
    (hn : l.most = some 63) (hdf : d.params.defaults = []) (hr : Room k callerA) (hY : ∀ (w : World) (h : Heap), YP w h → (K w.params).In h)
    (F : ∀ (w : World) (mg : Str → Option Value) (fa : Addr) (h : Heap), (K w.params).In h → h.Ns mainGlobals mg → mg d.name = some (.ref fa) →
      ∃ fd : FuncData, (∀ (s : Shared) (u : Value), BindsTo s fd ⟨[u], []⟩ [(x, u)]) ∧ ∀ base : Heap, (K w.params).In base → base.Ns mainGlobals mg → FnD l.prog w (K w.params) mg base k fa fd [x] dLaw) :
    PySem.W.WalkO q loose XP YP l.row.toRowW d [] (fun f vs => PySem.call f vs) := by
  refine Att.attach_call hn hdf fun w s₀ s₁ mg mb fa o pm cd doc a vs ns G Y ho hd hcd hmg hobj hints hlen hg => ?_
  have kx := hY w _ Y
  obtain ⟨fd, hb, hF⟩ := F w mg fa _ kx G.T.g hmg
  exact law_end kx G.T.g G.T.b G.T.builtins G.T.nolimit hg hobj hints hlen hr hF hb
end Dl
/-! D9: repr, sorted, methods of lists, exceptions. -/
namespace Dl
open PySem PySem.Spec PyProof.Rows L2 Evl

section
variable {X : Cx} {W : WX} {K : PySem.W.Frag} {G H : Hp} {m : Mu} {e o : Expr} {es : List Expr} {pos : Pos}
mutual
theorem cst_ok : ∀ d : PyData, d.showable = true → d.hasDict = false → d.shown.length ≤ cst d
  | .none, _, _ => by simp only [PyData.shown, cst]; decide
  | .bool b, _, _ => by cases b <;> (simp only [PyData.shown, cst]; decide)
  | .int i, h, _ => by
    have h' : i.natAbs.log2 < 1920 := by simpa [PyData.showable] using h
    simp only [PyData.shown, cst]
    have z := int_text_length_le (by decide) h'
    show (Str.ofString (toString i)).length ≤ 2000
    rw [PySem.ofString_length]
    omega
  | .str x, _, _ => by simp only [PyData.shown, cst]; exact Nat.le_refl _
  | .list ds, h, n => by
    simp only [PyData.shown, cst]
    have z := listText_len_le (PyData.shownAll ds)
    have y := cstA_ok ds (by simpa [PyData.showable] using h) (by simpa [PyData.hasDict] using n)
    omega
  | .tuple ds, h, n => by
    simp only [PyData.shown, cst]
    have z := tupleText_len_le (PyData.shownAll ds)
    have y := cstA_ok ds (by simpa [PyData.showable] using h) (by simpa [PyData.hasDict] using n)
    omega
  | .dict _, _, n => by simp [PyData.hasDict] at n
theorem cstA_ok : ∀ ds : List PyData, PyData.showableAll ds = true → PyData.hasDictAll ds = false → ((PyData.shownAll ds).map (·.length)).sum + 2 * (PyData.shownAll ds).length ≤ cstA ds
  | [], _, _ => by simp [PyData.shownAll, cstA]
  | d :: ds, h, n => by
    simp [PyData.showableAll] at h
    simp [PyData.hasDictAll] at n
    have z := cst_ok d h.1 n.1
    have y := cstA_ok ds h.2 n.2
    simp only [PyData.shownAll, cstA, List.map_cons, List.sum_cons, List.length_cons]
    omega
end
/-- what repr shows -/
abbrev xRepr : XRC := fun ys m F => ∃ d, ys = [.d d] ∧ d.showable = true ∧ d.hasDict = false ∧ d.depth ≤ 40 ∧ cst d ≤ 10000000 ∧ F (.d (.str d.shown)) m
theorem cd_repr (hg : X.A.guards = some []) (hu : X.A.units + 64 < cLine) : CallD X (.builtin "repr") xRepr := by
  refine ⟨fun vs H Q => ∃ v d, vs = [v] ∧ Da X.K H v d ∧ d.showable = true ∧ d.hasDict = false ∧ d.depth ≤ 40 ∧ d.shown.length ≤ sizeLine ∧ Q (.str d.shown) H, ?_, fun {G m H vs ys F Q} rh rv hx cv => ?_⟩
  · intro pins s σ H vs us Q I r ⟨v, d, ev, hd, h1, h2, h3, h4, q⟩
    subst ev
    obtain ⟨u, rfl, ru⟩ := vals1 r
    obtain ⟨as, rd⟩ := Da.reads I h2 hd ru
    cases hd with
    | non => cases ru; exact PySem.P.repr_of_none ⟨.str _, H, I.tok _, ⟨_, rfl⟩, q⟩
    | bl b => cases ru; exact PySem.P.repr_of_bool ⟨.str _, H, I.tok _, ⟨_, rfl⟩, q⟩
    | int i =>
      obtain ⟨t, rfl⟩ := ru
      exact PySem.P.repr_of_int (by simpa [PyData.showable] using h1) ⟨.str _, H, I.tok _, ⟨_, rfl⟩, q⟩
    | str x =>
      obtain ⟨t, rfl⟩ := ru
      exact PySem.P.repr_of_str ⟨.str _, H, I.tok _, ⟨_, rfl⟩, q⟩ h4
    | lst _ _ =>
      cases ru
      exact repr_of_reads' rd h1 (PyData.noDict_hsm h2) hg (by omega) (fun _ _ z => z) (fun h' t tk k => ⟨.str _, H, I.kept k, ⟨_, rfl⟩, q⟩) h4
    | tup _ _ =>
      cases ru
      exact repr_of_reads' rd h1 (PyData.noDict_hsm h2) hg (by omega) (fun _ _ z => z) (fun h' t tk k => ⟨.str _, H, I.kept k, ⟨_, rfl⟩, q⟩) h4
    | dic _ _ _ _ => simp [PyData.hasDict] at h2
  · obtain ⟨d, rfl, h1, h2, h3, h4, f⟩ := hx
    obtain ⟨v, rfl, rw⟩ := rvs1 rv
    exact ⟨v, d, rfl, rw.da.mono rh.sub, h1, h2, h3, Nat.le_trans (cst_ok d h1 h2) (Nat.le_trans h4 (by decide)), cv.at rh (.d (.str _)) f⟩

/-! ### sorted, of pairs of ints -/
def lexLe (p q : Int × Int) : Bool := !SrtO.lexB q p
theorem lexLe_trans (a b c : Int × Int) (h1 : lexLe a b = true) (h2 : lexLe b c = true) : lexLe a c = true := by
  unfold lexLe at *
  simp only [Bool.not_eq_true'] at *
  have x := SrtO.lexB_no.mp h1
  have y := SrtO.lexB_no.mp h2
  refine SrtO.lexB_no.mpr ?_
  omega
theorem lexLe_total (a b : Int × Int) : (lexLe a b || lexLe b a) = true := by
  unfold lexLe
  cases q : SrtO.lexB b a with
  | false => simp
  | true =>
    have x := SrtO.lexB_iff.mp q
    have y : SrtO.lexB a b = false := SrtO.lexB_no.mpr (by omega)
    simp [y]
theorem lexLe_anti (a b : Int × Int) (h1 : lexLe a b = true) (h2 : lexLe b a = true) : a = b := by
  unfold lexLe at *
  simp only [Bool.not_eq_true'] at *
  have x := SrtO.lexB_no.mp h1
  have y := SrtO.lexB_no.mp h2
  exact Prod.ext (by omega) (by omega)
def srt (ps : List (Int × Int)) : List (Int × Int) := ps.mergeSort lexLe
theorem srt_uniq {ps qs : List (Int × Int)} (h : qs.Pairwise fun a b => lexLe a b = true) (p : qs.Perm ps) : srt ps = qs := by
  have s1 : (srt ps).Pairwise fun a b => lexLe a b = true := List.pairwise_mergeSort lexLe_trans lexLe_total ps
  have p1 : (srt ps).Perm qs := (List.mergeSort_perm ps lexLe).trans p.symm
  exact p1.eq_of_pairwise (fun a b _ _ h1 h2 => lexLe_anti a b h1 h2) s1 h
def prD (p : Int × Int) : PyData := .tuple [.int p.1, .int p.2]
abbrev xSorted : XRC := fun ys m F => ∃ (ps : List (Int × Int)), ys = [.d (.list (ps.map prD))] ∧ F (.d (.list ((srt ps).map prD))) m
def PrV (K : PySem.W.Frag) (H : Hp) (x : V) (p : Int × Int) : Prop := ∃ t, x = .ref t ∧ SqT K H t [.int p.1, .int p.2]
theorem pr_das : ∀ {vs : List V} {ps : List (Int × Int)}, DaAll K H vs (ps.map prD) → Paired (PrV K H) vs ps
  | [], [], .nil => .nil
  | v :: vs, p :: ps, .cons h t => .cons (by
      cases h with
      | tup s q =>
        cases q with
        | cons q1 q2 =>
          cases q2 with
          | cons q3 q4 => cases q4; cases q1; cases q3; exact ⟨_, rfl, s⟩) (pr_das t)
theorem das_pr : ∀ {vs : List V} {ps : List (Int × Int)}, Paired (PrV K H) vs ps → DaAll K H vs (ps.map prD)
  | _, _, .nil => .nil
  | _, _, .cons ⟨t, e, s⟩ r => .cons (by subst e; exact .tup s (.cons (.int _) (.cons (.int _) .nil))) (das_pr r)
theorem PrV.mono {H' : Hp} (e : Ex H H') {x : V} {p : Int × Int} (h : PrV K H x p) : PrV K H' x p := by
  obtain ⟨t, e1, s⟩ := h
  exact ⟨t, e1, ex_t e s⟩
open Classical in
theorem cd_sorted : CallD X (.builtin "sorted") xSorted := by
  refine ⟨fun vs H Q => ∃ a xs ps, vs = [V.ref a] ∧ SqL X.K H a xs ∧ Paired (PrV X.K H) xs ps ∧ ∀ (zs : List (V × Int × Int)) d, H d = none → zs.Perm (xs.zip ps) → zs.map (·.2) = srt ps → Q (.ref d) (upd H d (.lst (zs.map (·.1)))), ?_, fun {G m H vs ys F Q} rh rv hx cv => ?_⟩
  · intro pins s σ H vs us Q I r ⟨a, xs, ps, ev, hs, hp, q⟩
    subst ev
    obtain ⟨its, rv, hl, hz⟩ := I.list hs
    obtain ⟨u, rfl, ru⟩ := vals1 r
    obtain rfl : u = Value.ref a := ru
    have uniq : ∀ (v : Value) (p q : Int × Int), Srt.IsPair s.heap v p.1 p.2 → Srt.IsPair s.heap v q.1 q.2 → p = q := by
      rintro v p q ⟨a1, o1, t1, u1, n1, e1, h1, c1, d1⟩ ⟨a2, o2, t2, u2, n2, e2, h2, c2, d2⟩
      rw [e1] at e2
      cases e2
      rw [h1] at h2
      cases h2
      rw [d1] at d2
      simp only [Data.seq.injEq, Array.mk.injEq, List.cons.injEq, Value.int.injEq] at d2
      exact Prod.ext d2.1.1.1 d2.1.2.1.1
    have isP : ∀ {x : V} {v : Value} {p : Int × Int}, PrV X.K H x p → RelV x v → Srt.IsPair s.heap v p.1 p.2 ∧ x = backV v ∧ ∃ b, v = Value.ref b := by
      rintro x v p ⟨t, rfl, st⟩ r
      cases r
      obtain ⟨js, rj, ⟨o, ho, hc, n, hd⟩, _⟩ := I.tuple st
      obtain ⟨u1, u2, rfl, r1, r2⟩ := vals2 rj
      obtain ⟨t1, rfl⟩ := r1
      obtain ⟨t2, rfl⟩ := r2
      exact ⟨⟨t, o, t1, t2, n, rfl, ho, hc, hd⟩, rfl, t, rfl⟩
    let k : Value → Int × Int := fun v => if h : ∃ p : Int × Int, Srt.IsPair s.heap v p.1 p.2 then h.choose else (0, 0)
    have kOf : ∀ {v : Value} {p : Int × Int}, Srt.IsPair s.heap v p.1 p.2 → k v = p := fun {v p} h => by
      have ex : ∃ p : Int × Int, Srt.IsPair s.heap v p.1 p.2 := ⟨p, h⟩
      show (if h : ∃ p : Int × Int, Srt.IsPair s.heap v p.1 p.2 then h.choose else (0, 0)) = p
      rw [dif_pos ex]
      exact uniq v _ _ ex.choose_spec h
    have all3 : ∀ {xs : List V} {ps : List (Int × Int)} {its : List Value}, Paired (PrV X.K H) xs ps → Vals xs its → xs.zip ps = its.map (fun v => (backV v, k v)) ∧ ps = its.map k ∧ (∀ v ∈ its, Srt.IsPair s.heap v (k v).1 (k v).2) ∧ ∀ v ∈ its, ∃ b, v = Value.ref b := by
      intro xs ps its hp
      induction hp generalizing its with
      | nil => intro r; cases r; exact ⟨rfl, rfl, (fun v h => nomatch h), (fun v h => nomatch h)⟩
      | cons h t ih =>
        intro r
        cases r with
        | cons r1 r2 =>
          obtain ⟨i0, i1, i2, i3⟩ := ih r2
          obtain ⟨ip, ex, eb⟩ := isP h r1
          have ek := kOf ip
          refine ⟨by rw [List.zip_cons_cons, List.map_cons, ← i0, ek, ← ex], by rw [List.map_cons, ← i1, ek], fun v hv => ?_, fun v hv => ?_⟩
          · rcases List.mem_cons.mp hv with rfl | hv
            · rw [ek]; exact ip
            · exact i2 v hv
          · rcases List.mem_cons.mp hv with rfl | hv
            · exact eb
            · exact i3 v hv
    obtain ⟨ez, ek, hpair, href⟩ := all3 hp rv
    refine SrtO.sorted_pairsO (k := k) hl.isList (by rw [← rv.length]; exact hz) hpair fun h' d out h1 h2 kp hd hn => ?_
    obtain ⟨n, hn⟩ := hn
    have eo : srt ps = out.map k := by
      refine srt_uniq ?_ (by rw [ek]; exact h2.perm.map k)
      refine List.pairwise_map.mpr (h1.imp fun {a b} hab => ?_)
      have hab' : SrtO.lexB (k b) (k a) = false := hab
      unfold lexLe
      rw [hab']
      rfl
    have ho : ∀ u ∈ out, ∃ b, u = Value.ref b := fun u hu => href u (h2.perm.mem_iff.mp hu)
    have fm : (out.map fun v => (backV v, k v)).map (·.1) = out.map backV := by rw [List.map_map]; rfl
    have sm : (out.map fun v => (backV v, k v)).map (·.2) = out.map k := by rw [List.map_map]; rfl
    have ly : (out.map backV).length ≤ sizeLine := by
      rw [List.length_map, h2.perm.length_eq, ← rv.length]
      exact hz
    have fin := q (out.map fun v => (backV v, k v)) d (I.hok.fresh hd) (by rw [ez]; exact h2.perm.map _) (by rw [sm, eo])
    rw [fm] at fin
    exact ⟨.ref d, upd H d (.lst (out.map backV)), I.laid (t' := s.toks) kp hd ⟨ly, out, n, vals_back ho, hn⟩, rfl, fin⟩
  · obtain ⟨ps, rfl, f⟩ := hx
    obtain ⟨v, rfl, rw⟩ := rvs1 rv
    obtain ⟨p, ws, rfl, s1, q1⟩ := rw.lst
    have hp : Paired (PrV X.K G) ws ps := pr_das q1
    refine ⟨p, ws, ps, rfl, .inl (rd_sub rh s1), pr_das (q1.mono rh.sub), fun zs d hd hz hs => ?_⟩
    have mem : ∀ {ws : List V} {ps : List (Int × Int)}, Paired (PrV X.K G) ws ps → ∀ z ∈ ws.zip ps, PrV X.K G z.1 z.2 := by
      intro ws ps h
      induction h with
      | nil => intro z hz; exact nomatch hz
      | cons h t ih =>
        intro z hz
        rw [List.zip_cons_cons] at hz
        rcases List.mem_cons.mp hz with rfl | hz
        · exact h
        · exact ih z hz
    have back : ∀ {zs : List (V × Int × Int)}, (∀ z ∈ zs, PrV X.K G z.1 z.2) → Paired (PrV X.K G) (zs.map (·.1)) (zs.map (·.2)) := by
      intro zs
      induction zs with
      | nil => intro _; exact .nil
      | cons z zs ih => intro h; exact .cons (h z (by simp)) (ih fun x hx => h x (by simp [hx]))
    have r1 := das_pr (back fun z h => mem hp z (hz.mem_iff.mp h))
    rw [hs] at r1
    exact lstD_ok rh r1.rvs hd f cv
end
end Dl
/-! D10: methods of lists, raise, try. -/
namespace Dl
open PySem PySem.Spec PyProof.Rows L2 Evl

section
variable {X : Cx} {W : WX} {K : PySem.W.Frag} {G H : Hp} {m : Mu} {e o : Expr} {es : List Expr} {pos : Pos} {to : XE} {t : XA} {te : XE}
/-! ### methods of built-in types -/
abbrev XRM := Y → List Y → Mu → (Y → Mu → Prop) → Prop
abbrev TyM (T : String) (m : Mu) : Y → Prop
  | .d (.str _) => T = "str"
  | .d (.list _) => T = "list"
  | .r _ => T = "list"
  | .l p => (T = "list" ∧ ∃ ys, m p = some (.lst ys)) ∨ (T = "dict" ∧ ∃ ys, m p = some (.dic ys))
  | _ => False
theorem tyM_ok {T : String} {v : V} {y : Y} (rh : Rh K G m H) (rv : RV K G v y) (h : TyM T m y) : tyV K T v H := by
  cases rv with
  | d q =>
    cases q with
    | str x => exact h
    | lst r q => exact .inl ⟨h, _, .inl (rd_sub rh r)⟩
    | _ => exact h.elim
  | l p =>
    rcases h with ⟨h, ys, e⟩ | ⟨h, ys, e⟩
    · obtain ⟨ws, e1, _⟩ := rh.lst e
      exact .inl ⟨h, ws, SqL.of e1⟩
    · obtain ⟨ws, e1, _⟩ := rh.dic e
      exact .inr (.inr (.inl ⟨h, .inl ⟨ws, e1⟩⟩))
  | v x => exact h.elim
  | r s q => exact .inl ⟨h, _, ex_l rh.sub s⟩
def MtD (X : Cx) (id : String) (xr : XRM) : Prop := ∃ r, MtR X id r ∧
  ∀ {G : Hp} {m : Mu} {H : Hp} {v : V} {y : Y} {vs : List V} {ys : List Y} {F : Y → Mu → Prop} {Q : VK}, Rh X.K G m H → RV X.K G v y → RVs X.K G vs ys → xr y ys m F → CvE X.K G F Q → r v vs H Q
abbrev xBM (T : String) (xr : XRM) (to : XE) (t : XA) : XE := fun r m F P => to r m (fun y m1 => TyM T m1 y ∧ t r m1 (fun ys m2 => xr y ys m2 F) P) P
theorem de_bm {T id : String} {name : Str} {apos : Pos} {xr : XRM} (hm : MtD X id xr) (pa : PlainAttrs T) (slot : Slot T name id) (hty : typeOf (.builtin id) = pure (.type "method_descriptor")) (ho : DE X W o to) (ha : DA X W (e :: es) t)
    (hbase : attributeBase o name X.env (eval o X.env) = eval o X.env := by rfl)
    (hfew : ((backTo pos (starEach (e :: es) X.env)).all (fun x => !x.1) && (backToKw pos (keywordEach [] X.env)).all (fun x => x.1.isSome) && decide ((e :: es).length + ([] : List Keyword).length + (if ([] : List Keyword).isEmpty then 0 else 1) < 30)) = true := by rfl)
    (hline : (apos.endLine == pos.line) = true := by rfl) (hs : starEach (e :: es) X.env = (false, eval e X.env) :: starEach es X.env := by rfl) (hplain : (backTo pos (starEach es X.env)).any (·.1) = false := by rfl) :
    DE X W (.Call (.Attribute o name apos) (e :: es) [] pos) (xBM T xr to t) := ⟨fun {G r m σ H F P Q} rs rh hx cv cx => by
  obtain ⟨r1, g1, g2⟩ := hm
  exact se_of (pe_bm pa slot hty g1 se_pe sa_pa hbase hfew hline hs hplain) (ho.run rs rh hx (fun v y G1 m1 H1 e1 rh1 rv1 ⟨q1, q2⟩ => ⟨tyM_ok rh1 rv1 q1,
    ha.run (rs.mono e1) rh1 q2 (fun vs ys G2 m2 H2 e2 rh2 rv2 q3 => g2 rh2 (rv1.mono e2) rv2 q3 (cv.mono (e1.trans e2))) (cx.mono e1)⟩) cx)⟩
theorem de_bm0 {T id : String} {name : Str} {apos : Pos} {xr : XRM} (hm : MtD X id xr) (pa : PlainAttrs T) (slot : Slot T name id) (hty : typeOf (.builtin id) = pure (.type "method_descriptor")) (ho : DE X W o to)
    (hbase : attributeBase o name X.env (eval o X.env) = eval o X.env := by rfl) (hline : (apos.endLine == pos.line) = true := by rfl) : DE X W (.Call (.Attribute o name apos) [] [] pos) (xBM T xr to xNil) := ⟨fun {G r m σ H F P Q} rs rh hx cv cx => by
  obtain ⟨r1, g1, g2⟩ := hm
  exact se_of (pe_bm0 pa slot hty g1 se_pe hbase hline) (ho.run rs rh hx (fun v y G1 m1 H1 e1 rh1 rv1 ⟨q1, q2⟩ => ⟨tyM_ok rh1 rv1 q1, g2 rh1 rv1 .nil q2 (cv.mono e1)⟩) cx)⟩
abbrev xAppend : XRM := fun y ys m F => ∃ p zs z, y = .l p ∧ ys = [z] ∧ m p = some (.lst zs) ∧ zs.length < 10000 ∧ F (.d .none) (mu m p (.lst (zs ++ [z])))
theorem md_append : MtD X "list.append" xAppend := ⟨_, mt_append, fun {G m H v y vs ys F Q} rh rv rvs ⟨p, zs, z, e1, e2, h1, h2, f⟩ cv => by
  subst e1 e2
  obtain ⟨w, rfl, rw⟩ := rvs1 rvs
  cases rv.loc
  obtain ⟨ws, e3, q⟩ := rh.lst h1
  exact ⟨p, ws, w, rfl, rfl, e3, by rw [q.length]; exact Nat.lt_of_lt_of_le h2 szl, cv .non _ G _ _ (Ex.refl G) (rh.write h1 (.lst (q.app (.cons rw .nil)))) (.d .non) f⟩⟩
abbrev xPopAt : XRM := fun y ys m F => ∃ p zs i k z, y = .l p ∧ ys = [.d (.int i)] ∧ m p = some (.lst zs) ∧ -(2 ^ 63) ≤ i ∧ i < 2 ^ 63 ∧ seqIndex? i zs.length = some k ∧ zs[k]? = some z ∧ F z (mu m p (.lst (zs.eraseIdx k)))
theorem md_popAt : MtD X "list.pop" xPopAt := ⟨_, mt_popAt, fun {G m H v y vs ys F Q} rh rv rvs ⟨p, zs, i, k, z, e1, e2, h1, h2, h3, h4, h5, f⟩ cv => by
  subst e1 e2
  obtain ⟨w, rfl, rw⟩ := rvs1 rvs
  cases rv.loc
  obtain ⟨ws, e3, q⟩ := rh.lst h1
  obtain ⟨u, hu, ru⟩ := RVs.get q h5
  exact ⟨p, ws, i, k, u, rfl, by rw [rw.int], e3, h2, h3, by rw [q.length]; exact h4, hu, cv u z G _ _ (Ex.refl G) (rh.write h1 (.lst (RVs.eraseIdx k q))) ru f⟩⟩
/-- xs.extend(ys) -/
abbrev xExtend : XRM := fun y ys m F => ∃ p zs z us, y = .l p ∧ ys = [z] ∧ m p = some (.lst zs) ∧ LsY m z us ∧ zs.length + us.length ≤ 10000 ∧ F (.d .none) (mu m p (.lst (zs ++ us)))

/-! ### raise -/
abbrev xRaise (C : Addr) (t : XE) : XS := fun D r m => t r m (fun _ m1 => D.ex (.ref C) [] r m1) (D.at r)
theorem ds_raise {C : Addr} {bmB : List Value} {B newId initId : String} {x : Str} {p pos' : Pos} (hc : X.calm = true) (tk : Takes X W) (F : ExcBaseFacts B newId initId bmB) (q : PySem.W.excIn X.K C bmB newId = true) (gC : X.mg x = some (.ref C)) (kC : PySem.W.keepIn X.K (.ref C) = true) (rs' : Raises X (.ref C)) (hg : Gl X x)
    (he : DE X W e te) (hs : starEach [e] X.env = (false, eval e X.env) :: starEach [] X.env := by rfl) (hdb : (x == ("__debug__" : Str)) = false := by decide) : DS X W (.Raise (some (.Call (.Name x p) [e] [] pos)) none pos') (xRaise C te) := ⟨fun {G r m σ H D E} rs rh hx f =>
  ss_of (ps_raise hc tk (SkE.pmk_own1 F q gC kC rs' hg se_pe hs hdb)) (he.run rs rh hx (fun v y G1 m1 H1 e1 rh1 rv1 q1 => f.ex _ none [] σ r G1 m1 H1 e1 (rs.mono e1) rh1 (.inl ⟨rfl, rfl⟩) q1) (f.cx rs))⟩

/-! ### try: .. except X: -/
def TSof (K : PySem.W.Frag) (W : WX) (t : XS) : TS := fun E σ H => ∃ G r m D, Rs K G σ r ∧ Rh K G m H ∧ t D r m ∧ Fits K W G D E
theorem tsof_pss {sts : List Stmt} {t : XS} (h : DSs X W sts t) : PSs X sts (TSof X.K W t) := ⟨fun pins s σ H E I ⟨G, r, m, D, rs, rh, q, f⟩ => h.run rs rh q f pins s I⟩
abbrev xTry (K : PySem.W.Frag) (c : Value) (tb ts : XS) : XS := fun D r m => tb { D with ex := fun cls fs r1 m1 => ∃ b, PySem.W.exmOne K cls c = some b ∧ (b = true → ts { D with ex := fun _ _ _ _ => False } r1 m1) ∧ (b = false → D.ex cls fs r1 m1) } r m
theorem ds_try {x : Str} {c : Value} {body suite : List Stmt} {b0 : Stmt} {np pos' : Pos} {tb ts : XS} (hs : X.stack = X.env :: X.outer) (hf : X.env.frame = some X.env.locals) (hc : Names X x c) (tk : Takes X W)
    (hb : ∀ (W' : WX) (pn : List (Addr × Obj)) (xe : Value → Shared → Prop), Takes (X.tr pn xe) W' → PassesOwn (model X.prog X.w) X.A X.env xe → DSs (X.tr pn xe) W' body tb)
    (hsu : ∀ (a : Addr) (oe : Obj) (cls : Value) (d : Option Addr) (pn : List (Addr × Obj)), Zc cls d oe → (∃ vs, oe.data = .fields vs) → DSs (X.suite a ((a, oe) :: pn)) W0 (b0 :: suite) ts) :
    DS X W (.Try body [.ExceptHandler (some (.Name x np)) none (b0 :: suite) pos'] [] [] pos) (xTry X.K c tb ts) := ⟨fun {G r m σ H D E} rs rh hx f =>
  ss_of (ps_try_only (tb := fun W' => TSof X.K W' tb) (ts := fun _ _ _ => TSof X.K W0 ts) hs hf hc tk (fun W' pn xe h1 h2 => tsof_pss (hb W' pn xe h1 h2)) (fun a oe cls d pn h1 h2 => tsof_pss (hsu a oe cls d pn h1 h2)))
    ⟨G, r, m, _, rs, rh, hx, ⟨f.nx, f.rt, f.bk, f.ct, fun cls d fs σ1 r1 G1 m1 H1 e1 rs1 rh1 xf ⟨b, q1, q2, q3⟩ => ⟨b, q1, fun hb a ha => ⟨G1, r1, m1, _, rs1, rh1, q2 hb, ⟨(f.mono e1).nx, (f.mono e1).rt, (f.mono e1).bk, (f.mono e1).ct, fun _ _ _ _ _ _ _ _ _ _ _ _ z => z.elim⟩⟩, fun hb => f.ex cls d fs σ1 r1 G1 m1 H1 e1 rs1 rh1 xf (q3 hb)⟩⟩⟩⟩
/-- an error of the class at C is what «except C» names -/
theorem exm_same {C : Addr} (h1 : PySem.W.subIn K (.ref C) (.type "BaseException") = some true) (h2 : PySem.W.kitCls K (.ref C) (.ref C) = some true) : PySem.W.exmOne K (.ref C) (.ref C) = some true := by
  unfold PySem.W.exmOne
  rw [h1]
  exact h2
end
end Dl
/-! D11: texts put together, minus, calls by what is known of a def, comprehensions by what they collect. -/
namespace Dl
open PySem PySem.Spec PyProof.Rows L2 Evl

section
variable {X : Cx} {W : WX} {K : PySem.W.Frag} {G H : Hp} {m : Mu} {e o : Expr} {es : List Expr} {pos : Pos} {to ta te tb : XE} {t : XA} {k j : Nat}
/-! ### -x -/
abbrev xNeg (ta : XE) : XE := fun r m F P => ta r m (fun y m1 => ∃ i : Int, y = .d (.int i) ∧ F (.d (.int (-i))) m1) P
theorem de_neg (h : DE X W e ta) : DE X W (.UnaryOp .USub e pos) (xNeg ta) := ⟨fun {G r m σ H F P Q} rs rh hx cv cx =>
  se_of (pe_un un_neg se_pe) (h.run rs rh hx (fun v y G1 m1 H1 e1 rh1 rv1 ⟨i, q, f⟩ => by
    subst q
    exact ⟨i, rv1.int, cv _ _ G1 m1 H1 e1 rh1 (.d (.int _)) f⟩) cx)⟩
/-! ### f-strings: the text is known -/
def fmtY : Y → Option Str
  | .d (.str x) => if x.length ≤ 2000 then some x else none
  | .d (.int i) => if i.natAbs.log2 < 1920 then some (Str.ofString (toString i)) else none
  | _ => none
inductive DJ (X : Cx) (W : WX) : List Expr → List XE → Prop
  | nil : DJ X W [] []
  | str {x : Str} {j : Nat} {p : Pos} {es : List Expr} {ts : List XE} : DJ X W es ts → DJ X W (.Constant (.str x) j p :: es) (xC (.d (.str x)) :: ts)
  | fmt {e : Expr} {p : Pos} {te : XE} {es : List Expr} {ts : List XE} : DE X W e te → DJ X W es ts → DJ X W (.FormattedValue e (-1) none p :: es) (te :: ts)
def xJ : List XE → Str → Ro → Mu → (Str → Mu → Prop) → XP → Prop
  | [], acc, _, m, F, _ => F acc m
  | t :: ts, acc, r, m, F, P => t r m (fun y m1 => ∃ x, fmtY y = some x ∧ (acc ++ x).length ≤ 10000 ∧ xJ ts (acc ++ x) r m1 F P) P
def SJ (X : Cx) (es : List Expr) (ts : List TE) : Prop := PJ X es ts
theorem fmt_len {y : Y} {x : Str} (h : fmtY y = some x) : x.length ≤ 2000 := by
  unfold fmtY at h
  split at h
  · split at h
    · cases h; assumption
    · cases h
  · split at h
    · cases h
      rename_i i q
      have z := int_text_length_le (by decide) q
      rw [PySem.ofString_length]
      omega
    · cases h
  · cases h
theorem fmt_ok {v : V} {y : Y} {x : Str} {Q : V → Hp → Prop} (rv : RV K G v y) (h : fmtY y = some x) (q : Q (V.str x) H) :
    (∃ y, v = V.str y ∧ y.length ≤ sizeLine ∧ Q (V.str y) H) ∨ ∃ i, v = V.int i ∧ i.natAbs.log2 < 1920 ∧ Q (V.str (Str.ofString (toString i))) H := by
  unfold fmtY at h
  split at h
  · split at h
    · cases h
      rename_i z
      exact .inl ⟨_, rv.str, Nat.le_trans z (by decide), q⟩
    · cases h
  · split at h
    · cases h
      rename_i z
      exact .inr ⟨_, rv.int, z, q⟩
    · cases h
  · cases h
theorem dj_ok {es : List Expr} {xs : List XE} (h : DJ X W es xs) : ∃ ts : List TE, PJ X es ts ∧ ∀ {G : Hp} {r : Ro} {m : Mu} {σ : L2.St} {H : Hp} {F : Str → Mu → Prop} {P : XP} {Q : Str → Hp → Prop} (acc : Str), Rs X.K G σ r → Rh X.K G m H → xJ xs acc r m F P →
    (∀ x G' m' H', Ex G G' → Rh X.K G' m' H' → F x m' → Q x H') → CvX X.K G P (WEx W σ) → tJs ts acc σ H Q := by
  induction h with
  | nil => exact ⟨[], .nil, fun acc rs rh hx cv cx => cv acc _ _ _ (Ex.refl _) rh hx⟩
  | @str x j p es xs hj ih =>
    obtain ⟨ts, h1, h2⟩ := ih
    refine ⟨_ :: ts, .cons pe_str h1, fun {G r m σ H F P Q} acc rs rh hx cv cx => ?_⟩
    obtain ⟨y, e1, e2, q⟩ := hx
    have e1' : (if x.length ≤ 2000 then some x else none) = some y := e1
    split at e1'
    · cases e1'
      exact ⟨x, rfl, Nat.le_trans e2 szl, h2 _ rs rh q cv cx⟩
    · cases e1'
  | @fmt e p te es xs he hj ih =>
    obtain ⟨ts, h1, h2⟩ := ih
    refine ⟨_ :: ts, .cons (pe_fmt se_pe) h1, fun {G r m σ H F P Q} acc rs rh hx cv cx => ?_⟩
    refine he.run rs rh hx (fun v y G1 m1 H1 e1 rh1 rv1 ⟨x, q1, q2, q3⟩ => ?_) cx
    refine fmt_ok (Q := fun v H1 => ∃ y, v = V.str y ∧ (acc ++ y).length ≤ sizeLine ∧ tJs ts (acc ++ y) σ H1 Q) rv1 q1 ⟨x, rfl, Nat.le_trans q2 szl, ?_⟩
    exact h2 _ (rs.mono e1) rh1 q3 (fun x G' m' H' e' => cv x G' m' H' (e1.trans e')) (cx.mono e1)
abbrev xJs (ts : List XE) : XE := fun r m F P => xJ ts Str.empty r m (fun x m1 => F (.d (.str x)) m1) P
theorem de_fstr {e1 e2 : Expr} {xs : List XE} (h : DJ X W (e1 :: e2 :: es) xs) : DE X W (.JoinedStr (e1 :: e2 :: es) pos) (xJs xs) := ⟨fun {G r m σ H F P Q} rs rh hx cv cx => by
  obtain ⟨ts, h1, h2⟩ := dj_ok h
  exact se_of (pe_joined h1) (h2 _ rs rh hx (fun x G' m' H' e' rh' f => cv _ _ G' m' H' e' rh' (.d (.str x)) f) cx)⟩

/-! ### calls by what is known -/
structure GF (pr : Program) (w : World) (K : PySem.W.Frag) (mg : Str → Option Value) (base : Heap) (x : Str) (k : Nat) (f : Addr) (fd : FuncData) (ps : List Str) (d : DSp) : Prop where
  fn : FnD pr w K mg base k f fd ps d
  bn : Binds K fd ps []
  gm : mg x = some (.ref f)
  kp : PySem.W.keepIn K (.ref f) = true
structure MF (pr : Program) (w : World) (K : PySem.W.Frag) (mg : Str → Option Value) (base : Heap) (C : Addr) (x : Str) (k : Nat) (f : Addr) (fd : FuncData) (ps : List Str) (d : DSp) : Prop where
  fn : FnD pr w K mg base k f fd ps d
  bn : Binds K fd ps []
  cl : Cls K C
  mt : Meth K C x f
structure PF (pr : Program) (w : World) (K : PySem.W.Frag) (mg : Str → Option Value) (base : Heap) (C : Addr) (x : Str) (k : Nat) (p f : Addr) (fd : FuncData) (ps : List Str) (d : DSp) : Prop where
  fn : FnD pr w K mg base k f fd ps d
  bn : Binds K fd ps []
  cl : Cls K C
  pr' : PropOf K C x p f
structure NF (pr : Program) (w : World) (K : PySem.W.Frag) (mg : Str → Option Value) (base : Heap) (x : Str) (C : Addr) (k : Nat) (f : Addr) (fd : FuncData) (ps : List Str) (d : DSp) : Prop where
  fn : FnD pr w K mg base k f fd ps d
  bn : Binds K fd ps []
  gm : mg x = some (.ref C)
  mk' : Mk K C f
section
variable {f C pa : Addr} {fd : FuncData} {ps : List Str} {d : DSp} {x : Str} {p apos : Pos}
theorem de_gf (F : GF X.prog X.w X.K X.mg X.base x k f fd ps d) (hr : Room j X.A) (hgd : X.A.guards = some []) (tk : Takes X W) (hg : Gl X x) (ha : DA X W (e :: es) t) (hk : k ≤ j := by decide) (hdb : (x == ("__debug__" : Str)) = false := by decide) (he : starEach (e :: es) X.env = (false, eval e X.env) :: starEach es X.env := by rfl)
    (hpl : (backTo pos (starEach es X.env)).any (·.1) = false := by rfl) : DE X W (.Call (.Name x p) (e :: es) [] pos) (xCall d [] t) :=
  de_call F.fn (hr.mono hk) hgd tk hg F.gm F.kp F.bn .nil (fun _ => .nil) ha hdb he hpl
theorem de_mf {pl : Sem Bool} (he : DE X W o to) (F : MF X.prog X.w X.K X.mg X.base C x k f fd ps d) (hr : Room j X.A) (hgd : X.A.guards = some []) (tk : Takes X W) (ha : DA X W (e :: es) t) (hk : k ≤ j := by decide) (hst : starEach (e :: es) X.env = (false, eval e X.env) :: starEach es X.env := by rfl) (hpl : (backTo pos (starEach es X.env)).any (·.1) = false := by rfl)
    (ht : eval (.Call (.Attribute o x apos) (e :: es) [] pos) X.env = (eval o X.env >>= fun ov => standAt apos.atName >>= fun _ => holding [ov] (getMethod ov x pl) >>= fun z =>
      callWith pos z.1 z.2 (backTo pos (starEach (e :: es) X.env)) (backToKw pos (keywordEach [] X.env))) := by rfl) :
    DE X W (.Call (.Attribute o x apos) (e :: es) [] pos) (xMeth C x d [] to t) := de_meth he F.cl F.mt F.fn (hr.mono hk) hgd tk F.bn .nil (fun _ => .nil) ha hst hpl ht
theorem de_mf0 {pl : Sem Bool} (he : DE X W o to) (F : MF X.prog X.w X.K X.mg X.base C x k f fd ps d) (hr : Room j X.A) (hgd : X.A.guards = some []) (tk : Takes X W) (hk : k ≤ j := by decide)
    (ht : eval (.Call (.Attribute o x apos) [] [] pos) X.env = (eval o X.env >>= fun ov => standAt apos.atName >>= fun _ => holding [ov] (getMethod ov x pl) >>= fun z =>
      callWith pos z.1 z.2 (backTo pos (starEach [] X.env)) (backToKw pos (keywordEach [] X.env))) := by rfl) :
    DE X W (.Call (.Attribute o x apos) [] [] pos) (xMeth C x d [] to xNil) := de_meth0 he F.cl F.mt F.fn (hr.mono hk) hgd tk F.bn .nil (fun _ => .nil) ht
theorem de_pf (he : DE X W o to) (F : PF X.prog X.w X.K X.mg X.base C x k pa f fd ps d) (hr : Room j X.A) (hgd : X.A.guards = some []) (hk : k + 1 ≤ j := by decide) (hab : attributeBase o x X.env (eval o X.env) = eval o X.env := by rfl) : DE X W (.Attribute o x pos) (xProp C d to) :=
  de_prop he F.cl F.pr' F.fn (hr.mono hk) hgd F.bn hab
theorem de_nf (F : NF X.prog X.w X.K X.mg X.base x C k f fd ps d) (hr : Room j X.A) (hgd : X.A.guards = some []) (tk : Takes X W) (hg : Gl X x) (ha : DA X W (e :: es) t) (hk : k + 1 ≤ j := by decide) (hdb : (x == ("__debug__" : Str)) = false := by decide) (he : starEach (e :: es) X.env = (false, eval e X.env) :: starEach es X.env := by rfl)
    (hpl : (backTo pos (starEach es X.env)).any (·.1) = false := by rfl) : DE X W (.Call (.Name x p) (e :: es) [] pos) (xMake C d [] t) :=
  de_make F.mk' F.fn (hr.mono hk) hgd tk hg F.gm F.bn .nil (fun _ => .nil) ha hdb he hpl
theorem Room.u64 {A : Around} (hr : Room k A) : A.units + 64 < cLine := by
  have := hr.un; omega
end
end

/-! ### the store grows -/
def Mle (m M : Mu) : Prop := ∀ a o, m a = some o → M a = some o
section
variable {m M N : Mu} {a p : Addr} {o u : MO}
theorem Mle.refl : Mle m m := fun _ _ h => h
theorem Mle.trans (h : Mle m M) (h' : Mle M N) : Mle m N := fun a o e => h' a o (h a o e)
theorem Mle.new (h : m p = none) : Mle m (mu m p o) := fun a u e => by
  rw [mu_ne]; exact e
  intro q; subst q; rw [h] at e; cases e
theorem Mle.mu (h : Mle m M) : Mle (mu m p o) (mu M p o) := fun a u e => by
  by_cases q : a = p
  · subst q; rw [mu_same] at e ⊢; exact e
  · rw [mu_ne q] at e ⊢; exact h a u e
theorem Mle.drop (h : Mle m M) (hp : m p = none) : Mle m (fun b => if b = p then none else M b) := fun a u e => by
  show (if a = p then none else M a) = some u
  rw [if_neg]; exact h a u e
  intro q; subst q; rw [hp] at e; cases e
theorem Mle.none (h : Mle m M) (hp : M p = none) : m p = none := by
  cases e : m p with
  | none => rfl
  | some o => rw [h p o e] at hp; cases hp
theorem mu_lt (h : m p = none) (h2 : m a = some o) : a ≠ p := fun q => by subst q; rw [h] at h2; cases h2
end
/-! ### a comprehension, by what a turn collects -/
section
variable {r : Ro} {m : Mu} {F : Y → Mu → Prop} {g : XG} {tt : XT} {te : XE} {vs : List Nat}
theorem fm_len {α : Type} (f : Nat → Option α) (n : Nat) : ((List.range n).filterMap f).length ≤ n := by
  have := List.length_filterMap_le f (List.range n)
  rwa [List.length_range] at this
theorem fm_succ {α : Type} (f : Nat → Option α) (n : Nat) : (List.range (n + 1)).filterMap f = (List.range n).filterMap f ++ (f n).toList := by
  rw [List.range_succ, List.filterMap_append]
  congr 1
/-- what is asked of a walk, from the store m -/
abbrev LcZ (fin : Addr → List Y → Mu → (Y → Mu → Prop) → Prop) (k : Wk) (g : XG) (tt : XT) (te : XE) (vs : List Nat) (r : Ro) (m : Mu) (F : Y → Mu → Prop) : Prop :=
  ∀ D, m D = none → ∃ Z : Nat → List Y → Mu → Prop, Z 0 [] (mu m D (.lst [])) ∧
    ∀ i acc M, i ≤ k.n → Z i acc M → M D = some (.lst acc) ∧ k.src M ∧ (i < k.n → k.itm i M (fun y M1 => g y (wipeR r vs) M1 (fun r2 M2 => tt r2 M2 (fun b M3 =>
      if b = true then te r2 M3 (fun z M4 => M4 D = some (.lst acc) ∧ acc.length < 10000 ∧ Z (i + 1) (acc ++ [z]) (mu M4 D (.lst (acc ++ [z])))) P0 else Z (i + 1) acc M3) P0))) ∧ (i = k.n → fin D acc M F)
theorem lc_go {fin : Addr → List Y → Mu → (Y → Mu → Prop) → Prop} {k : Wk} (f : Nat → Option Y) (hn : k.n ≤ 10000) (hs : ∀ M, Mle m M → k.src M)
    (ht : ∀ i M, i < k.n → Mle m M → ∀ (C : Y → Mu → Prop) (N : Mu → Prop), (∀ z M', f i = some z → Mle M M' → C z M') → (∀ M', f i = none → Mle M M' → N M') →
      k.itm i M (fun y M1 => g y (wipeR r vs) M1 (fun r2 M2 => tt r2 M2 (fun b M3 => if b = true then te r2 M3 C P0 else N M3) P0)))
    (hf : ∀ D M, m D = none → Mle (mu m D (.lst ((List.range k.n).filterMap f))) M → fin D ((List.range k.n).filterMap f) M F) : LcZ fin k g tt te vs r m F := by
  intro D hD
  refine ⟨fun i acc M => acc = (List.range i).filterMap f ∧ Mle (mu m D (.lst acc)) M, ⟨rfl, Mle.refl⟩, ?_⟩
  rintro i acc M hi ⟨rfl, hM⟩
  have hmD := hM D _ mu_same
  have hmM : Mle m M := (Mle.new hD).trans hM
  refine ⟨hmD, hs M hmM, fun hlt => ?_, fun he => ?_⟩
  · refine ht i M hlt hmM _ _ (fun z M' hz hM' => ⟨hM' _ _ hmD, Nat.lt_of_le_of_lt (fm_len f i) (by omega), ?_, ?_⟩) (fun M' hz hM' => ⟨?_, ?_⟩)
    · rw [fm_succ, hz]; rfl
    · have z1 : Mle (mu m D (.lst ((List.range i).filterMap f))) M' := hM.trans hM'
      have z2 := z1.mu (p := D) (o := .lst ((List.range i).filterMap f ++ [z]))
      rw [mu_mu] at z2
      exact z2
    · rw [fm_succ, hz]; simp
    · exact hM.trans hM'
  · subst he
    exact hf D M hD hM
theorem fm_get {α β : Type} (h : Nat → α → Option β) : ∀ (ys : List α) (n : Nat), n ≤ ys.length → (List.range n).filterMap (fun i => ys[i]?.bind (h i)) = (ys.take n).zipIdx.filterMap (fun p => h p.2 p.1) := by
  intro ys n
  induction n with
  | zero => intro _; rfl
  | succ n ih =>
    intro hn
    rw [fm_succ, ih (by omega)]
    have e : ys[n]? = some ys[n] := List.getElem?_eq_getElem (by omega)
    rw [List.take_add_one, e, List.zipIdx_append, List.filterMap_append]
    congr 1
    simp
    rw [Nat.min_eq_left (by omega)]
    cases q : h n ys[n] <;> simp [q]
theorem fm_all {α β : Type} (h : α → Option β) (ys : List α) : (List.range ys.length).filterMap (fun i => ys[i]?.bind h) = ys.filterMap h := by
  rw [fm_get (fun _ => h) ys ys.length (Nat.le_refl _), List.take_length]
  rw [show ys.filterMap h = (ys.zipIdx.map Prod.fst).filterMap h by rw [List.zipIdx_map_fst]]
  rw [List.filterMap_map]
  rfl
/-- over the items of a sequence -/
theorem lc_seq {fin : Addr → List Y → Mu → (Y → Mu → Prop) → Prop} {y : Y} {ys : List Y} (h : Y → Option Y) (hn : ys.length ≤ 10000) (hy : ∀ p, y = .l p → m p ≠ none)
    (ht : ∀ z M, z ∈ ys → Mle m M → ∀ (C : Y → Mu → Prop) (N : Mu → Prop), (∀ x M', h z = some x → Mle M M' → C x M') → (∀ M', h z = none → Mle M M' → N M') → g z (wipeR r vs) M (fun r2 M2 => tt r2 M2 (fun b M3 => if b = true then te r2 M3 C P0 else N M3) P0))
    (hf : ∀ D M, m D = none → Mle (mu m D (.lst (ys.filterMap h))) M → fin D (ys.filterMap h) M F) : LcZ fin (wkSeq m y ys) g tt te vs r m F := by
  refine lc_go (k := wkSeq m y ys) (fun i => ys[i]?.bind h) hn (fun M hM p e => ?_) (fun i M hi hM C N hC hN => ?_) (fun D M hD hM => ?_)
  · cases q : m p with
    | none => exact absurd q (hy p e)
    | some o => exact hM p o q
  · have e : ys[i]? = some ys[i] := List.getElem?_eq_getElem hi
    refine ⟨ys[i], e, ?_⟩
    rw [e] at hC hN
    exact ht ys[i] M (List.getElem_mem _) hM C N hC hN
  · have ef := fm_all h ys
    show fin D ((List.range ys.length).filterMap _) M F
    have hM' : Mle (mu m D (.lst ((List.range ys.length).filterMap fun i => ys[i]?.bind h))) M := hM
    rw [ef] at hM' ⊢
    exact hf D M hD hM'
/-- over enumerate(a list): the places and items -/
theorem lc_enum {fin : Addr → List Y → Mu → (Y → Mu → Prop) → Prop} {y : Y} {ys : List Y} (h : Nat → Y → Option Y) (hn : ys.length ≤ 10000) (hy : ∀ p, y = .l p → m p ≠ none)
    (ht : ∀ i z M, ys[i]? = some z → Mle m M → ∀ (C : Y → Mu → Prop) (N : Mu → Prop), (∀ x M', h i z = some x → Mle M M' → C x M') → (∀ M', h i z = none → Mle M M' → N M') →
      mkT [.d (.int (i : Nat)), z] M (fun y M1 => g y (wipeR r vs) M1 (fun r2 M2 => tt r2 M2 (fun b M3 => if b = true then te r2 M3 C P0 else N M3) P0)))
    (hf : ∀ D M, m D = none → Mle (mu m D (.lst (ys.zipIdx.filterMap fun p => h p.2 p.1))) M → fin D (ys.zipIdx.filterMap fun p => h p.2 p.1) M F) : LcZ fin (wkEnum m y ys) g tt te vs r m F := by
  refine lc_go (k := wkEnum m y ys) (fun i => ys[i]?.bind (h i)) hn (fun M hM p e => ?_) (fun i M hi hM C N hC hN => ?_) (fun D M hD hM => ?_)
  · cases q : m p with
    | none => exact absurd q (hy p e)
    | some o => exact hM p o q
  · have e : ys[i]? = some ys[i] := List.getElem?_eq_getElem hi
    refine ⟨ys[i], e, ?_⟩
    rw [e] at hC hN
    exact ht i ys[i] M e hM C N hC hN
  · have ef := fm_get h ys ys.length (Nat.le_refl _)
    rw [List.take_length] at ef
    show fin D ((List.range ys.length).filterMap _) M F
    have hM' : Mle (mu m D (.lst ((List.range ys.length).filterMap fun i => ys[i]?.bind (h i)))) M := hM
    rw [ef] at hM' ⊢
    exact hf D M hD hM'
/-- the two ways in which a comprehension ends -/
theorem fin_d {D : Addr} {M : Mu} {acc : List Y} (ds : List PyData) (e : acc = ds.map Y.d) (hD : m D = none) (hM : Mle (mu m D (.lst acc)) M) (h : ∀ m', Mle m m' → F (.d (.list ds)) m') : finD D acc M F :=
  ⟨ds, e, h _ (((Mle.new hD).trans hM).drop hD)⟩
end
end Dl
namespace Dl
open PySem PySem.Spec PyProof.Rows L2 Evl
section
variable {X : Cx} {W : WX} {x : Str} {pos : Pos}
/-- a constant of the module, a built-in class -/
theorem de_gi {i : Int} (hg : Gl X x) (hm : ∃ t, X.mg x = some (.int i t)) (hd : (x == ("__debug__" : Str)) = false := by decide) : DE X W (.Name x pos) (xC (.d (.int i))) := by
  obtain ⟨t, hm⟩ := hm
  exact de_glob (v := V.int i) (u := Value.int i t) hg hm ⟨t, rfl⟩ (fun G => .d (Da.int i)) hd
theorem de_ty {T : String} (hg : Gl X x) (hm : X.mg x = none) (hb : bootBuiltins x = some (.type T)) (hn : x ≠ "__name__" := by decide) (hd : (x == ("__debug__" : Str)) = false := by decide) : DE X W (.Name x pos) (xC (.v (.ty T))) :=
  de_c (pe_bltn hg hm hb (v := V.ty T) rfl hn hd) fun G => .v (.ty T)
end
end Dl
/-! D12: objects that may change, read as deep data at one moment: ==. -/
namespace Dl
open PySem PySem.Spec PyProof.Rows L2 Evl
mutual
inductive DeepY (m : Mu) : Y → PyData → Prop
  | d (x : PyData) : DeepY m (.d x) x
  | l {p : Addr} {ys : List Y} {ds : List PyData} : m p = some (.lst ys) → DeepYs m ys ds → DeepY m (.l p) (.list ds)
  | t {p : Addr} {ys : List Y} {ds : List PyData} : m p = some (.tup ys) → DeepYs m ys ds → DeepY m (.l p) (.tuple ds)
inductive DeepYs (m : Mu) : List Y → List PyData → Prop
  | nil : DeepYs m [] []
  | cons {y : Y} {ys : List Y} {d : PyData} {ds : List PyData} : DeepY m y d → DeepYs m ys ds → DeepYs m (y :: ys) (d :: ds)
end
section
variable {X : Cx} {K : PySem.W.Frag} {G H : Hp} {m : Mu}
theorem rvs_nil {ws : List V} (h : RVs K G ws []) : ws = [] := by cases h; rfl
theorem rvs_uncons {ws : List V} {y : Y} {ys : List Y} (h : RVs K G ws (y :: ys)) : ∃ w ws', ws = w :: ws' ∧ RV K G w y ∧ RVs K G ws' ys := by
  cases h with
  | cons h t => exact ⟨_, _, rfl, h, t⟩
mutual
theorem DeepY.da (rh : Rh K G m H) : ∀ {y : Y} {d : PyData} {v : V}, DeepY m y d → RV K G v y → Da K H v d
  | _, _, _, .d x, rv => rv.da.mono rh.sub
  | _, _, _, .l h hs, rv => by
    obtain ⟨ws, e, q⟩ := rh.lst h
    cases rv.loc
    exact .lst (.inl e) (DeepYs.da rh hs q)
  | _, _, _, .t h hs, rv => by
    obtain ⟨ws, e, q⟩ := rh.tup h
    cases rv.loc
    exact .tup (SqT.of e) (DeepYs.da rh hs q)
theorem DeepYs.da (rh : Rh K G m H) : ∀ {ys : List Y} {ds : List PyData} {ws : List V}, DeepYs m ys ds → RVs K G ws ys → DaAll K H ws ds
  | _, _, _, .nil, r => by rw [rvs_nil r]; exact .nil
  | _, _, _, .cons h t, r => by
    obtain ⟨w, ws', rfl, r1, r2⟩ := rvs_uncons r
    exact .cons (DeepY.da rh h r1) (DeepYs.da rh t r2)
end
theorem DeepYs.len {ys : List Y} {ds : List PyData} (h : DeepYs m ys ds) : ys.length = ds.length := by
  induction ys generalizing ds with
  | nil => cases h; rfl
  | cons y ys ih =>
    cases h with
    | cons h t => exact congrArg Nat.succ (ih t)
/-- == of what may change, by the data that it is now -/
abbrev xEqL : XR := fun y z m F => ∃ a b, DeepY m y a ∧ DeepY m z b ∧ SeqAt.shaped a = true ∧ SeqAt.shaped b = true ∧ F (.d (.bool (PyData.eqv a b))) m
theorem opd_eqL (hu : X.A.units + 64 < cLine) : OpD X (compareOp .Eq) xEqL := by
  refine ⟨_, op_eqD hu, fun {G m H v w y z F Q} rh rv rw hx cv => ?_⟩
  obtain ⟨a, b, h1, h2, h3, h4, f⟩ := hx
  exact ⟨a, b, (h1.da rh rv).dp (shaped_lay h3), (h2.da rh rw).dp (shaped_lay h4), h3, h4, cv.at rh (.d (.bl _)) f⟩
abbrev xNeL : XR := fun y z m F => ∃ a b, DeepY m y a ∧ DeepY m z b ∧ SeqAt.shaped a = true ∧ SeqAt.shaped b = true ∧ F (.d (.bool !(PyData.eqv a b))) m
theorem opd_neL (hu : X.A.units + 64 < cLine) : OpD X (compareOp .NotEq) xNeL := by
  refine ⟨_, op_neD hu, fun {G m H v w y z F Q} rh rv rw hx cv => ?_⟩
  obtain ⟨a, b, h1, h2, h3, h4, f⟩ := hx
  exact ⟨a, b, (h1.da rh rv).dp (shaped_lay h3), (h2.da rh rw).dp (shaped_lay h4), h3, h4, cv.at rh (.d (.bl _)) f⟩
theorem eqv_nil : PyData.eqv (.list []) (.list []) = true := by simp [PyData.eqv, PyData.eqvAll]
theorem eqv_cons {d : PyData} {ds : List PyData} : PyData.eqv (.list (d :: ds)) (.list []) = false := by simp [PyData.eqv, PyData.eqvAll]
end
end Dl
/-! D13: rules that name the fragment K beside the context. -/
namespace Dl
open PySem PySem.Spec PyProof.Rows L2 Evl
section
variable {X : Cx} {W : WX} {e o : Expr} {es : List Expr} {pos : Pos} {t ta to : XE}
theorem kfld (K : PySem.W.Frag) {fn : Str} (he : DE X W e ta) (hb : attributeBase e fn X.env (eval e X.env) = eval e X.env := by rfl) (hK : X.K = K := by rfl) : DE X W (.Attribute e fn pos) (xFld K ta fn) := by
  subst hK; exact de_fld he hb
theorem kcon (K : PySem.W.Frag) {fn : Str} (he : DE X W e ta) (hb : attributeBase e fn X.env (eval e X.env) = eval e X.env := by rfl) (hK : X.K = K := by rfl) : DE X W (.Attribute e fn pos) (xCon K ta fn) := by
  subst hK; exact de_con he hb
theorem ksetF (K : PySem.W.Frag) {fn : Str} {pos' : Pos} (ho : DE X W o to) (hv : DE X W e t) (hs : swapsWith e (some (.Attribute o fn pos')) pos.line X.env = pure false := by rfl) (hK : X.K = K := by rfl) : DS X W (.Assign [.Attribute o fn pos'] e pos) (xSetF K to t fn) := by
  subst hK; exact ds_setF ho hv hs
theorem kisi (K : PySem.W.Frag) (hK : X.K = K := by rfl) : CallD X (.builtin "isinstance") (xIsi K) := by
  subst hK; exact cd_isi
theorem ktry (K : PySem.W.Frag) {x : Str} {c : Value} {body suite : List Stmt} {b0 : Stmt} {np pos' : Pos} {tb ts : XS} (hs : X.stack = X.env :: X.outer) (hf : X.env.frame = some X.env.locals) (hc : Names X x c) (tk : Takes X W)
    (hb : ∀ (W' : WX) (pn : List (Addr × Obj)) (xe : Value → Shared → Prop), Takes (X.tr pn xe) W' → PassesOwn (model X.prog X.w) X.A X.env xe → DSs (X.tr pn xe) W' body tb)
    (hsu : ∀ (a : Addr) (oe : Obj) (cls : Value) (d : Option Addr) (pn : List (Addr × Obj)), Zc cls d oe → (∃ vs, oe.data = .fields vs) → DSs (X.suite a ((a, oe) :: pn)) W0 (b0 :: suite) ts) (hK : X.K = K := by rfl) :
    DS X W (.Try body [.ExceptHandler (some (.Name x np)) none (b0 :: suite) pos'] [] [] pos) (xTry K c tb ts) := by
  subst hK; exact ds_try hs hf hc tk hb hsu
end
/-- an exception class of the program's own over ValueError, known by its name -/
structure XcF (K : PySem.W.Frag) (mg : Str → Option Value) (x : Str) (C : Addr) : Prop where
  q : PySem.W.excIn K C [.type "ValueError", .type "Exception", .type "BaseException", .type "object"] "ValueError.__new__" = true
  gC : mg x = some (.ref C)
  kC : PySem.W.keepIn K (.ref C) = true
  s1 : PySem.W.subIn K (.ref C) (.type "BaseException") = some true
  s2 : PySem.W.typeIn K (.ref C) = some (.type "type")
  em : PySem.W.exmOne K (.ref C) (.ref C) = some true
theorem exm_own {K : PySem.W.Frag} {S : Addr} (h1 : PySem.W.subIn K (.ref S) (.type "BaseException") = some true) (h2 : PySem.W.isClsIn K S = true) (h3 : PySem.W.typeIn K (.ref S) = some (.type "type")) (h4 : PySem.W.subIn K (.ref S) (.ref S) = some true) : PySem.W.exmOne K (.ref S) (.ref S) = some true := by
  unfold PySem.W.isClsIn at h2
  unfold PySem.W.exmOne
  rw [h1]
  show PySem.W.kitCls K (.ref S) (.ref S) = some true
  unfold PySem.W.kitCls
  simp [h2, h3, h4]
section
variable {X : Cx} {W : WX} {e : Expr} {te : XE} {C : Addr} {x : Str}
theorem kraise {p pos pos' : Pos} (hc : X.calm = true) (tk : Takes X W) (F : XcF X.K X.mg x C) (hg : Gl X x) (he : DE X W e te) (hs : starEach [e] X.env = (false, eval e X.env) :: starEach [] X.env := by rfl) (hdb : (x == ("__debug__" : Str)) = false := by decide) : DS X W (.Raise (some (.Call (.Name x p) [e] [] pos)) none pos') (xRaise C te) :=
  ds_raise hc tk PySem.F.excBase_ValueError F.q F.gC F.kC (raises_own F.s1 F.s2) hg he hs hdb
theorem XcF.nm (F : XcF X.K X.mg x C) (hg : Gl X x) (hdb : (x == ("__debug__" : Str)) = false := by decide) : Names X x (.ref C) := ⟨hg, hdb, .inl F.gC⟩
end
end Dl
/-! D14: a method's body that says super(): a frame with the cell of its class. -/
namespace Dl
open PySem PySem.Spec PyProof.Rows L2 Evl
abbrev clsN : Str := "__class__"
theorem cells_acc : ∀ (ns : List (Str × NameKind)) (n : Nat) (acc : List (Str × Addr)), cellsFrom n ns acc = cellsFrom n ns [] ++ acc
  | [], _, _ => rfl
  | (x, k) :: r, n, acc => by
    rw [cellsFrom, cellsFrom]
    split
    · rw [cells_acc r (n + 1) ((x, n) :: acc), cells_acc r (n + 1) [(x, n)], List.append_assoc]
      rfl
    · exact cells_acc r n acc
theorem look_app {α : Type} {x : Str} {v : α} : ∀ {l r : List (Str × α)}, l.lookup x = some v → (l ++ r).lookup x = some v
  | [], _, h => by simp at h
  | (y, w) :: l, r, h => by
    rw [List.cons_append, List.lookup_cons]
    rw [List.lookup_cons] at h
    split at h
    · exact h
    · exact look_app h
/-- what a name is stored in does not depend on more cells behind -/
theorem store_more {env env' : Env} {x : Str} (v : Value) (hs : env.scope = env'.scope) (hl : env.locals = env'.locals) (hk : env'.kindOf x = some .local ∨ env'.kindOf x = some .cell ∧ ∃ c, env'.cells.lookup x = some c ∧ env.cells.lookup x = some c) (hf : env'.scope.kind = .function) : storeName env x v = storeName env' x v := by
  have hk2 : env.kindOf x = env'.kindOf x := by unfold Env.kindOf; rw [hs]
  unfold storeName
  rw [hk2, hs, hl]
  rcases hk with hk | ⟨hk, c, h1, h2⟩
  · rw [hk]
    simp [hf]
  · rw [hk]
    simp [hf, PySem.cellOf, h1, h2]
section
variable {M : Model} {A : Around} {E : Value → Shared → Prop} {s : Shared} {scope : Scope} {globals : Addr} {binds : List (Str × Value)} {qual : Str} {func : Option Addr} {code : Value} {builtins : Addr} {cl : List (Str × Addr)} {Q : Env → Shared → Prop}
theorem newFn_cl (hk : scope.kind = .function) (hb : ∀ y ∈ binds, scope.names.lookup y.1 = some .local ∨ scope.names.lookup y.1 = some .cell ∧ ((cellsFrom (s.heap.objs.size + 1) scope.names []).lookup y.1).isSome = true)
    (h : ∀ s', InCallC s s.heap.objs.size (bindL (fun x => scope.names.lookup x) binds fun _ => none) (cellsFrom (s.heap.objs.size + 1) scope.names []) (bindC (fun x => scope.names.lookup x) binds fun _ => none) s' →
      Q (newEnv scope s.heap.objs.size globals (cellsFrom (s.heap.objs.size + 1) scope.names [] ++ cl) qual func code none builtins) s') : wpAny M A (newFunctionEnv scope globals cl binds qual func code none builtins) Q E s := by
  have hz : (s.heap.push { cls := Value.type "frame", data := Data.dict #[] }).objs.size = s.heap.objs.size + 1 := Heap.size_push _ _
  have I0 : InCallC s s.heap.objs.size (fun _ => none) (cellsFrom (s.heap.objs.size + 1) scope.names []) (fun _ => none) { heap := pushCells (s.heap.push { cls := Value.type "frame", data := Data.dict #[] }) scope.names, gens := s.gens, drawn := s.drawn, toks := s.toks, os := s.os } := by
    have ck := cellsFrom_ok scope.names (s.heap.push { cls := Value.type "frame", data := Data.dict #[] }) (s.heap.objs.size + 1) [] ⟨(fun _ _ h => by simp at h), .nil⟩ (by rw [hz]; exact Nat.le_refl _)
    rw [hz] at ck
    refine ⟨⟨⟨_, _, rfl⟩, (Heap.Ns.new s.heap _).keeps fun b o e => pushCells_keeps _ _ b o e, fun b o e => pushCells_keeps _ _ b o (Heap.get?_push_of_some _ e), Nat.le_refl _⟩, fun n c e => (ck.empty n c (mem_of_lookup e)).1, ck.apart, fun n c e => (ck.empty n c e).2⟩
  have hsome : ∀ {x : Str}, ((cellsFrom (s.heap.objs.size + 1) scope.names []).lookup x).isSome = true → ∃ c, (cellsFrom (s.heap.objs.size + 1) scope.names []).lookup x = some c ∧ (cellsFrom (s.heap.objs.size + 1) scope.names [] ++ cl).lookup x = some c := fun {x} hh => by
    obtain ⟨c, hc⟩ := Option.isSome_iff_exists.mp hh
    exact ⟨c, hc, look_app hc⟩
  have loop : ∀ (env env' : Env), env.scope = env'.scope → env.locals = env'.locals → env'.scope.kind = .function → ∀ (bs : List (Str × Value)), (∀ y ∈ bs, env'.kindOf y.1 = some .local ∨ env'.kindOf y.1 = some .cell ∧ ∃ c, env'.cells.lookup y.1 = some c ∧ env.cells.lookup y.1 = some c) →
      (forIn bs PUnit.unit fun (x : Str × Value) (_ : PUnit) => (do storeName env x.1 x.2; pure (ForInStep.yield PUnit.unit) : Sem (ForInStep PUnit))) = forIn bs PUnit.unit fun (x : Str × Value) (_ : PUnit) => (do storeName env' x.1 x.2; pure (ForInStep.yield PUnit.unit)) := by
    intro env env' e1 e2 e3 bs
    induction bs with
    | nil => intro _; rfl
    | cons y bs ih =>
      intro hbs
      rw [List.forIn_cons, List.forIn_cons, store_more y.2 e1 e2 (hbs y (by simp)) e3]
      congr 1
      funext r
      cases r with
      | done b => rfl
      | yield b => exact ih fun z hz => hbs z (by simp [hz])
  unfold newFunctionEnv
  refine wpAny_bind (wpAny_alloc ?_)
  refine wpAny_bind (wpAny_layCells _ (fun _ _ _ => rfl) scope.names cl _ _ ?_)
  generalize hc : cellsFrom _ scope.names cl = cells
  have hc2 : cells = cellsFrom (s.heap.objs.size + 1) scope.names [] ++ cl := by
    rw [← hc]
    exact (congrArg (fun n => cellsFrom n scope.names cl) hz).trans (cells_acc _ _ _)
  subst hc2
  clear hc
  refine wpAny_bind ?_
  have e := loop { scope := scope, locals := s.heap.objs.size, globals := globals, cells := cellsFrom (s.heap.objs.size + 1) scope.names [] ++ cl, qual := qual, func := func, code := code, frame := some s.heap.objs.size, builtins := builtins }
    { scope := scope, locals := s.heap.objs.size, globals := globals, cells := cellsFrom (s.heap.objs.size + 1) scope.names [], qual := qual, func := func, code := code, frame := some s.heap.objs.size, builtins := builtins } rfl rfl hk binds (fun y hy => (hb y hy).imp id fun q => ⟨q.1, hsome q.2⟩)
  have go := wpAny_bindParams (M := M) (A := A) (E := E) (s₀ := s) (env := { scope := scope, locals := s.heap.objs.size, globals := globals, cells := cellsFrom (s.heap.objs.size + 1) scope.names [], qual := qual, func := func, code := code, frame := some s.heap.objs.size, builtins := builtins }) (fun (x : Str × Value) (_ : PUnit) => (do storeName { scope := scope, locals := s.heap.objs.size, globals := globals, cells := cellsFrom (s.heap.objs.size + 1) scope.names [], qual := qual, func := func, code := code, frame := some s.heap.objs.size, builtins := builtins } x.1 x.2; pure (ForInStep.yield PUnit.unit) : Sem (ForInStep PUnit))) (fun _ _ _ => rfl) hk binds (fun _ => none) (fun _ => none) _
    (fun _ s' => wpAny M A (pure (newEnv scope s.heap.objs.size globals (cellsFrom (s.heap.objs.size + 1) scope.names [] ++ cl) qual func code none builtins)) Q E s') I0 hb (fun s' x => wpAny_pure (h s' x))
  rw [← e] at go
  exact go
end
/-! ### the frame of such a method -/
def envS (qual : Str) (scope : Scope) (L f : Addr) (cd : Value) (cc : Addr) : Env :=
  { scope := scope, locals := L, globals := mainGlobals, cells := cellsFrom (L + 1) scope.names [] ++ [(clsN, cc)], qual := qual ++ Str.ofString ".<locals>.", func := some f, code := cd, frame := some L, builtins := builtinsNs }
abbrev cxS (P : Program) (w : World) (K : PySem.W.Frag) (mg : Str → Option Value) (base : Heap) (N : List Str) (qual : Str) (scope : Scope) (f : Addr) (cd : Value) (cc : Addr) (A : Around) (outer : List Env) (s : Shared) (H : Hp) (E : XK) : Cx :=
  { prog := P, w := w, K := K, mg := mg, base := base, A := A.deeper (envS qual scope s.heap.objs.size f cd cc), N := N, s_0 := s, H_0 := H, env := envS qual scope s.heap.objs.size f cd cc, outer := outer, stack := envS qual scope s.heap.objs.size f cd cc :: outer, ex := [],
    fn := fun x => !(x == clsN), calm := true, pn := [],
    xe := fun e s' => wpAny (model P w) (A.deeper (envS qual scope s.heap.objs.size f cd cc)) (leaving (envS qual scope s.heap.objs.size f cd cc) e) (fun _ s'' => L2.CX P w outer H s E e s'') (fun e' s'' => L2.CX P w outer H s E e' s'') s' }
/-- the scope without the class's cell -/
def less (sc : Scope) : Scope := { sc with names := sc.names.filter fun y => !(y.1 == clsN) }
theorem less_look (sc : Scope) {x : Str} (h : x ≠ clsN) : (less sc).names.lookup x = sc.names.lookup x := by
  unfold less
  show (sc.names.filter _).lookup x = _
  induction sc.names with
  | nil => rfl
  | cons y r ih =>
    obtain ⟨a, k⟩ := y
    by_cases e : a = clsN
    · subst e
      rw [List.filter_cons_of_neg (by simp), ih, List.lookup_cons]
      rw [show (x == clsN) = false by simpa using h]
    · rw [List.filter_cons_of_pos (by simpa using e), List.lookup_cons, List.lookup_cons, ih]
theorem less_cells : ∀ (ns : List (Str × NameKind)) (n : Nat) (acc : List (Str × Addr)), (∀ y ∈ ns, y.1 = clsN → y.2 ≠ .cell) → cellsFrom n (ns.filter fun y => !(y.1 == clsN)) acc = cellsFrom n ns acc
  | [], _, _, _ => rfl
  | (x, k) :: r, n, acc, h => by
    have hr := fun n acc => less_cells r n acc fun y hy => h y (by simp [hy])
    by_cases e : x = clsN
    · have hk := h (x, k) (by simp) e
      rw [List.filter_cons_of_neg (by simp [e]), hr, cellsFrom, if_neg (by simpa using hk)]
    · rw [List.filter_cons_of_pos (by simpa using e), cellsFrom, cellsFrom]
      split
      · exact hr _ _
      · exact hr _ _
theorem bindL_eq {k k' : Str → Option NameKind} : ∀ {bs : List (Str × Value)} {m : Str → Option Value}, (∀ y ∈ bs, k y.1 = k' y.1) → bindL k bs m = bindL k' bs m
  | [], _, _ => rfl
  | (x, v) :: r, m, h => by
    rw [bindL, bindL, h (x, v) (by simp)]
    exact bindL_eq fun y hy => h y (by simp [hy])
theorem bindC_eq {k k' : Str → Option NameKind} : ∀ {bs : List (Str × Value)} {m : Str → Option Value}, (∀ y ∈ bs, k y.1 = k' y.1) → bindC k bs m = bindC k' bs m
  | [], _, _ => rfl
  | (x, v) :: r, m, h => by
    rw [bindC, bindC, h (x, v) (by simp)]
    exact bindC_eq fun y hy => h y (by simp [hy])
structure SupScope (N ps : List Str) (sc : Scope) : Prop where
  fs : FnScope N ps (less sc)
  cls : sc.names.lookup clsN = some .free
  only : ∀ y ∈ sc.names, y.1 = clsN → y.2 ≠ .cell
  nin : clsN ∉ N
  pin : ∀ x ∈ ps, x ≠ clsN
section
variable {P : Program} {w : World} {K : PySem.W.Frag} {mg : Str → Option Value} {base : Heap} {N ps : List Str} {qual : Str} {scope : Scope} {f cc : Addr} {cd : Value} {A : Around} {outer : List Env} {s s1 : Shared} {H : Hp} {E : XK} {us : List Value} {vs : List V}
theorem inv_sup (S : SupScope N ps scope) (hA : A.handled = none) (e0 : Env0 P w K mg base A outer s H) (hl : vs.length = ps.length) (r : Vals vs us) {oc : Obj} {D : Value} (hcc : K.lookup cc = some oc) (hoc : oc.data = .cell (some D))
    (x : InCallC s s.heap.objs.size (bindL (fun x => scope.names.lookup x) (ps.zip us) fun _ => none) (cellsFrom (s.heap.objs.size + 1) scope.names []) (bindC (fun x => scope.names.lookup x) (ps.zip us) fun _ => none) s1) :
    L2.Inv (cxS P w K mg base N qual scope f cd cc A outer s H E) [] (L2.start N vs) H s1 := by
  have hps : ∀ y ∈ ps.zip us, scope.names.lookup y.1 = (less scope).names.lookup y.1 := fun y hy => (less_look scope (S.pin _ (List.of_mem_zip hy).1)).symm
  have hcs : ∀ n, cellsFrom n (less scope).names [] = cellsFrom n scope.names [] := fun n => less_cells _ _ _ S.only
  have x' : InCallC s s.heap.objs.size (bindL (envOfC qual (less scope) s.heap.objs.size f cd).kindOf (ps.zip us) fun _ => none) (cellsFrom (s.heap.objs.size + 1) (less scope).names []) (bindC (envOfC qual (less scope) s.heap.objs.size f cd).kindOf (ps.zip us) fun _ => none) s1 := by
    rw [hcs]
    have e1 := bindL_eq (k := fun x => scope.names.lookup x) (k' := fun x => (less scope).names.lookup x) (m := fun _ => none) hps
    have e2 := bindC_eq (k := fun x => scope.names.lookup x) (k' := fun x => (less scope).names.lookup x) (m := fun _ => none) hps
    rw [e1, e2] at x
    exact x
  have I := inv_start (CX := L2.CX P w) (P := P) (w := w) (K := K) (mg := mg) (base := base) (qual := qual) (f := f) (cd := cd) (E := E) S.fs hA e0 hl r x'
  have KX : K.In base := e0.mod.kin
  obtain ⟨hcs0, hH⟩ := e0.bs cc oc (KX _ _ hcc)
  have hlt : cc < s.heap.objs.size := by
    exact Heap.IsCell.lt (h := s.heap) (v := some D) ⟨oc, hcs0, hoc⟩
  have cellcc : s1.heap.IsCell cc (some D) := ⟨oc, x.toInCall.keep cc oc hcs0, hoc⟩
  have split : ∀ {y : Str} {c : Addr}, (cellsFrom (s.heap.objs.size + 1) scope.names [] ++ [(clsN, cc)]).lookup y = some c → (cellsFrom (s.heap.objs.size + 1) scope.names []).lookup y = some c ∨ y = clsN ∧ c = cc := by
    intro y c h
    cases q : (cellsFrom (s.heap.objs.size + 1) scope.names []).lookup y with
    | some c' =>
      rw [look_app q] at h
      exact .inl h
    | none =>
      have go : ∀ (l : List (Str × Addr)), l.lookup y = none → (l ++ [(clsN, cc)]).lookup y = [(clsN, cc)].lookup y := by
        intro l
        induction l with
        | nil => intro _; rfl
        | cons z l ih =>
          intro hn
          rw [List.lookup_cons] at hn
          rw [List.cons_append, List.lookup_cons]
          split at hn
          · cases hn
          · rw [ih hn]
      rw [go _ q, List.lookup_cons] at h
      split at h
      · rename_i e
        cases h
        exact .inr ⟨by simpa using e, rfl⟩
      · cases h
  have old : ∀ {y : Str} {c : Addr}, (cellsFrom (s.heap.objs.size + 1) scope.names []).lookup y = some c → s.heap.objs.size < c := fun h => x.above _ _ (mem_of_lookup h)
  have hc' : ∀ {y : Str} {c : Addr}, (cellsFrom (s.heap.objs.size + 1) scope.names []).lookup y = some c → (envOfC qual (less scope) s.heap.objs.size f cd).cells.lookup y = some c := fun {y c} h => by
    show (cellsFrom _ (less scope).names []).lookup y = some c
    rw [hcs]; exact h
  have hc2 : ∀ {y : Str} {c : Addr}, (envOfC qual (less scope) s.heap.objs.size f cd).cells.lookup y = some c → (cellsFrom (s.heap.objs.size + 1) scope.names []).lookup y = some c := fun {y c} h => by
    have h' : (cellsFrom (s.heap.objs.size + 1) (less scope).names []).lookup y = some c := h
    rw [hcs] at h'; exact h'
  have kd : ∀ {y : Str}, y ≠ clsN → (envOfC qual (less scope) s.heap.objs.size f cd).kindOf y = (envS qual scope s.heap.objs.size f cd cc).kindOf y := fun h => less_look scope h
  refine ⟨⟨I.ok.mod, I.ok.kind, rfl, rfl, Nat.le_refl _, ?_, ?_, ?_, fun _ => hA, ?_, .inr ⟨rfl, rfl⟩, (fun _ h => nomatch h), e0.bs, e0.bsz, (fun _ _ _ h => nomatch h), (fun _ h => nomatch h), e0.funs, e0.frf⟩, I.os, I.bare, I.base, ?_, ?_, I.free, ?_, I.pin, I.hok, I.len⟩
  · intro a b c h1 h2
    rcases split h1 with h1 | ⟨h1, e1⟩
    · rcases split h2 with h2 | ⟨h2, e2⟩
      · exact I.ok.inj a b c (hc' h1) (hc' h2)
      · exact absurd hlt (by rw [← e2]; exact Nat.not_lt.mpr (Nat.le_of_lt (old h1)))
    · rcases split h2 with h2 | ⟨h2, e2⟩
      · exact absurd hlt (by rw [← e1]; exact Nat.not_lt.mpr (Nat.le_of_lt (old h2)))
      · rw [h1, h2]
  · intro a h
    by_cases ea : a = clsN
    · subst ea
      show ∃ c, (cellsFrom (s.heap.objs.size + 1) scope.names [] ++ [(clsN, cc)]).lookup clsN = some c
      cases q : (cellsFrom (s.heap.objs.size + 1) scope.names []).lookup clsN with
      | some c => exact ⟨c, look_app q⟩
      | none =>
        refine ⟨cc, ?_⟩
        generalize cellsFrom (s.heap.objs.size + 1) scope.names [] = l at q
        induction l with
        | nil => rw [List.nil_append, List.lookup_cons]; simp
        | cons z l ih =>
          rw [List.lookup_cons] at q
          rw [List.cons_append, List.lookup_cons]
          split at q
          · cases q
          · rw [ih q]
    · obtain ⟨c, hcc2⟩ := I.ok.has a (by rw [← kd ea] at h; exact h)
      exact ⟨c, look_app (hc2 hcc2)⟩
  · intro a c h1 h2
    rcases split h2 with h2 | ⟨h2, e2⟩
    · have := old h2; exact Nat.le_of_lt this
    · subst h2; simp at h1
  · show Option.map _ A.frames = _
    rw [e0.frames]
    rfl
  · obtain ⟨m, h1, h2⟩ := I.loc
    refine ⟨m, h1, fun i y v e1 e2 e3 => ?_⟩
    have hy : y ≠ clsN := fun e => S.nin (e ▸ List.mem_of_getElem? e1)
    obtain ⟨u, ru, lk⟩ := h2 i y v e1 e2 (by
      have e4 : (less scope).names.lookup y = scope.names.lookup y := less_look scope hy
      show (less scope).names.lookup y = _ ∨ (less scope).names.lookup y = _ ∨ (less scope).names.lookup y = _
      rw [e4]
      exact e3)
    refine ⟨u, ru, ?_⟩
    rcases lk with ⟨k1, k2⟩ | ⟨k1, c, k2, k3⟩
    · exact .inl ⟨by rw [← kd hy]; exact k1, k2⟩
    · exact .inr ⟨by rw [← kd hy]; exact k1, c, look_app (hc2 k2), k3⟩
  · intro a c h
    rcases split h with h | ⟨h, e⟩
    · exact I.cell a c (hc' h)
    · subst e; exact ⟨_, cellcc⟩
  · intro a c h
    rcases split h with h | ⟨h, e⟩
    · exact I.freeC a c (hc' h)
    · subst e; exact hH
end
end Dl
/-! D15: super().m(..) as the first thing that a method does. -/
namespace Dl
open PySem PySem.Spec PyProof.Rows L2 Evl
/-- what is known of a method that says super() -/
structure SupFact (P : Program) (K : PySem.W.Frag) (f : Addr) (fd : FuncData) (cdv : Value) (cc D : Addr) : Prop where
  lk : ∃ oc od osl, K.lookup f = some ⟨oc, od, .func fd, osl⟩
  ar : ∃ ar, (fd.params.posonlyargs ++ fd.params.args).head? = some ar ∧ ar.arg = ("self" : Str)
  code : ∃ cda oc vs file tf, cdv = .ref cda ∧ K.lookup cda = some oc ∧ oc.data = .fields vs ∧ vs[2]? = some (.str file tf) ∧ (P.main.file == file) = true
  cell : ∃ o, K.lookup cc = some o ∧ o.data = .cell (some (.ref D))
  nosup : (P.main.scope.names.lookup ("super" : Str)).isSome = false
/-- what super() finds from the class D, of an instance of C -/
structure SupTo (K : PySem.W.Frag) (C D : Addr) (m : Str) (g : Addr) : Prop where
  hC : ∃ cd, PySem.W.clsIn K C = some cd
  hD : ∃ cd, PySem.W.clsIn K D = some cd
  sub : PySem.W.mroIn K C (.ref D) = some true
  at_ : PySem.W.ks_superIn K C D m = some (some (.ref g))
  fn : PySem.W.fnIn K g = true
  ty : PySem.W.typeIn K (.ref g) = some (.type "function")
  op : PySem.W.nsIn K cStatics "thirdparty.any" = some none
structure DEA (X : Cx) (W : WX) (bd : List Stmt) (e : Expr) (t : XE) : Prop where
  run : ∀ {G : Hp} {r : Ro} {m : Mu} {σ : L2.St} {H : Hp} {F : Y → Mu → Prop} {P : XP} {Q : VK}, Rs X.K G σ r → Rh X.K G m H → t r m F P → CvE X.K G F Q → CvX X.K G P (WEx W σ) →
    ∀ (pins : List (Addr × Obj)) (s : Shared), Inv X pins σ H s → PySem.wpAt (model X.prog X.w) X.A (.func bd X.env) (eval e X.env) (EP X pins σ Q) X.xe s
structure DSA (X : Cx) (W : WX) (bd : List Stmt) (st : Stmt) (t : XS) : Prop where
  run : ∀ {G : Hp} {r : Ro} {m : Mu} {σ : L2.St} {H : Hp} {D : DEnds} {E : Ends}, Rs X.K G σ r → Rh X.K G m H → t D r m → Fits X.K W G D E →
    ∀ (pins : List (Addr × Obj)) (s : Shared), Inv X pins σ H s → PySem.wpAt (model X.prog X.w) X.A (.func bd X.env) (exec st X.env) (SP X pins E) X.xe s
structure DSsA (X : Cx) (W : WX) (bd : List Stmt) (sts : List Stmt) (t : XS) : Prop where
  run : ∀ {G : Hp} {r : Ro} {m : Mu} {σ : L2.St} {H : Hp} {D : DEnds} {E : Ends}, Rs X.K G σ r → Rh X.K G m H → t D r m → Fits X.K W G D E →
    ∀ (pins : List (Addr × Obj)) (s : Shared), Inv X pins σ H s → PySem.wpAt (model X.prog X.w) X.A (.func bd X.env) (execs sts X.env) (SP X pins E) X.xe s
section
variable {X : Cx} {W : WX} {bd : List Stmt} {e : Expr} {es : List Expr} {st : Stmt} {sts : List Stmt} {pos : Pos} {t : XE} {u u' : XS} {ta : XA}
theorem dssA_of (h : DSs X W sts u) : DSsA X W bd sts u := ⟨fun rs rh hx f pins s I => wpAt_of_wpAny (h.run rs rh hx f pins s I)⟩
theorem dssA_cons (h1 : DSA X W bd st u) (h2 : DSs X W sts u') : DSsA X W bd (st :: sts) (xSeq u u') := ⟨fun {G r m σ H D E} rs rh hx f pins s I => by
  refine ks_wpAt_execs_cons (ks_wpAt_mono (h1.run (D := { D with nx := u' D }) (E := { E with nx := SSts X sts E }) rs rh hx (f.nx_of fun σ1 r1 G1 m1 H1 e1 rs1 rh1 q => h2.run rs1 rh1 q (f.mono e1)) pins s I) (fun fl s' q => ?_) fun _ _ q => q)
  match fl, q with
  | .next, ⟨σ', H', J, q⟩ => exact wpAt_of_wpAny (q pins s' J)
  | .ret u, q => exact q
  | .brk, q => exact q
  | .cont, q => exact q⟩
theorem dssA_one (h1 : DSA X W bd st u) : DSsA X W bd [st] u := ⟨fun {G r m σ H D E} rs rh hx f pins s I => by
  have h := (dssA_cons h1 (dss_nil (X := X) (W := W))).run (D := D) (E := E) (G := G) (r := r) (m := m) (σ := σ) (H := H) rs rh (by
    show u { D with nx := xNext D } r m
    exact hx) f pins s I
  exact h⟩
theorem dsA_ret (h : DEA X W bd e t) : DSA X W bd (.Return (some e) pos) (xRet t) := ⟨fun {G r m σ H D E} rs rh hx f pins s I =>
  ks_wpAt_Return_some (ks_wpAt_mono (h.run rs rh hx (fun v y G1 m1 H1 e1 rh1 rv1 q => f.rt v y G1 m1 H1 e1 rh1 rv1 q) (f.cx rs) pins s I) (fun v s' ⟨x, H', J, rx, q⟩ => ⟨x, σ, H', J, rx, q⟩) fun _ _ q => q)⟩
theorem dsA_set {i : Nat} {x : Str} {pos' : Pos} (hN : X.N.Nodup) (hi : X.N[i]? = some x) (hx : Loc X.env.scope x) (he : DEA X W bd e t) (hs : swapsWith e (some (.Name x pos')) pos.line X.env = pure false := by rfl) (hf : X.fn x = true ∨ X.env.scope.names.lookup x = some .local := by first | exact .inl rfl | exact .inr rfl | assumption) :
    DSA X W bd (.Assign [.Name x pos'] e pos) (xAsg t (xgName i)) := ⟨fun {G r m σ H D E} rs rh hx' f pins s I =>
  ks_wpAt_Assign_Name (ks_wpAt_mono (he.run rs rh hx' (Q := fun v H1 => E.nx (σ.set i (some v)) H1) (fun v y G1 m1 H1 e1 rh1 rv1 q => f.nx _ _ G1 m1 H1 e1 ((rs.mono e1).set rv1 i) rh1 q) (f.cx rs) pins s I) (fun v s' ⟨x, H', J, rx, q⟩ => store_ok J hN hi hx rx (fun s2 J2 => ⟨_, _, J2, q⟩) hf) fun _ _ q => q) hs⟩
/-- super().m(..): the def at g, of the same object -/
abbrev xSup (C : Addr) (i : Nat) (d : DSp) (ta : XA) : XE := fun r m F P => ∃ a dx gs, r[i]? = some (some (.l a)) ∧ m a = some (.ins C dx gs) ∧ ta r m (fun ys m1 => d (.l a :: ys) m1 F P) P
section
variable {i k : Nat} {f g cc C D : Addr} {fd fdg : FuncData} {cdv : Value} {mn : Str} {p0 p1 apos : Pos} {ps : List Str} {d : DSp}
theorem sup_base {pl : Sem Bool} {args : List Expr} (hsup : Gl X "super") (hms : X.mg "super" = none) (hcl : X.env.kindOf clsN = some .free) (hmn : (mn == clsN) = false) (hfu : X.env.func = some f) (hcd : X.env.code = cdv) (S : SupFact X.prog X.K f fd cdv cc D) (hcc : X.env.cells.lookup clsN = some cc)
    (hsf : X.N[i]? = some ("self" : Str)) (hv : Vis X.env.scope "self") (T : SupTo X.K C D mn g) {pins : List (Addr × Obj)} {s : Shared} {σ : L2.St} {H : Hp} (I : Inv X pins σ H s) {a dx : Addr} {fs : List (Str × V)} (hσ : σ[i]? = some (some (.ref a))) (ha : H a = some (.ins C dx fs)) {Q : Value → Shared → Prop}
    (k : ∀ q s1, Inv X pins σ H s1 → s1.heap.get? q = some (PySem.W.methodObj (.ref g) (.ref a)) → (H q = none ∧ q ≠ X.env.locals ∧ ¬ q ∈ X.fs) → wpAny (model X.prog X.w) X.A (callWith pos (.ref q) [] (backTo pos (starEach args X.env)) []) Q X.xe s1)
    (ht : eval (.Call (.Attribute (.Call (.Name "super" p0) [] [] p1) mn apos) args [] pos) X.env = (attributeBase (.Call (.Name "super" p0) [] [] p1) mn X.env (eval (.Call (.Name "super" p0) [] [] p1) X.env) >>= fun ov => standAt apos.atName >>= fun _ => holding [ov] (getMethod ov mn pl) >>= fun z =>
      callWith pos z.1 z.2 (backTo pos (starEach args X.env)) [])) :
    PySem.wpAt (model X.prog X.w) X.A (.func bd X.env) (eval (.Call (.Attribute (.Call (.Name "super" p0) [] [] p1) mn apos) args [] pos) X.env) Q X.xe s := by
  obtain ⟨oc, od, osl, hlk⟩ := S.lk
  obtain ⟨ar, har, hself⟩ := S.ar
  obtain ⟨cda, ocd, vs, file, tf, rfl, hcda, hvs, hfile, hff⟩ := S.code
  obtain ⟨ocl, hcell, hcv⟩ := S.cell
  obtain ⟨cdC, hC⟩ := T.hC
  obtain ⟨cdD, hD⟩ := T.hD
  have KX := I.kIn
  refine ks_wpAt_MethodCall (pl := pl) (ks_wpAt_super_base hsup hcl hmn hfu (KX _ _ hlk) rfl har hcd (KX _ _ hcda) hvs hfile hff S.nosup ?_) ht
  have hkind := I.ok.kind
  obtain ⟨mb, hmb, hbb⟩ := I.mod.blt
  refine PySem.W.ks_loadName_global hkind hsup (Calls.loadGlobal_builtin (mg := X.mg) (mb := mb) (v := .type "super") (by rw [I.ok.glob]; exact I.mod.glob.keeps I.bk) hms (by rw [I.ok.blt]; exact hmb.keeps I.bk) ((hbb _ (by decide)).trans Boot.super) ⟨rfl, ?_⟩)
  refine wpAny_loadName_free hkind hcl hcc ⟨ocl, KX _ _ hcell, hcv⟩ ?_
  have hD' : ∃ oD, X.K.lookup D = some oD ∧ oD.data = .cls cdD := by
    unfold PySem.W.clsIn at hD
    split at hD
    · rename_i heq
      cases hD
      exact ⟨_, heq, rfl⟩
    · cases hD
  obtain ⟨oD, hoD, hdD⟩ := hD'
  obtain ⟨mA, O, _, _, _, _⟩ := ins_get I.hok ha
  obtain ⟨odx, J, _⟩ := O.look
  have after : wpAny (model X.prog X.w) X.A (PySem.isType (.ref D)) (fun b s4 => b = true ∧ wpAny (model X.prog X.w) X.A (call (.type "super") [.ref D, .ref a]) (fun ov s₁ => wpAny (model X.prog X.w) X.A (getMethod ov mn pl) (fun fx s₂ => wpAny (model X.prog X.w) X.A (callWith pos fx.fst fx.snd (backTo pos (starEach args X.env)) []) Q X.xe s₂) X.xe s₁) X.xe s4) X.xe s := by
    refine ks_wpAny_isType_cls (KX _ _ hoD) hdD ⟨rfl, ?_⟩
    refine ks_wpAny_call_super (KX _ _ hoD) hdD J.at_ J.cls (fun c hc => ?_) (PySem.W.looks_mroIn KX T.sub) fun h' hso keep => ?_
    · have := J.no
      unfold PySem.W.notCls at this
      rw [hc] at this
      cases this
    · have I1 := I.kept (t' := s.toks) keep
      have l1 : PySem.W.Looks (model X.prog X.w) h' (mroOf (.ref C)) cdC.mro := by
        intro A' Q' E' s' hk hq
        show wpAny _ _ (classData C >>= fun c => pure c.mro) _ _ _
        exact wpAny_bind (PySem.W.looks_clsIn (I1.kIn) hC A' _ E' s' hk (wpAny_pure hq))
      have halong : PySem.W.alongIn X.K mn (List.drop 1 (List.dropWhile (fun x => x != Value.ref D) cdC.mro)) = some (some (.ref g)) := by
        have h := T.at_
        unfold PySem.W.ks_superIn at h
        rw [hC] at h
        exact h
      have hty := T.ty
      have hg : ∃ og, X.K.lookup g = some og ∧ og.cls = .type "function" := by
        unfold PySem.W.typeIn at hty
        obtain ⟨og, h1, h2⟩ := Option.map_eq_some_iff.mp hty
        exact ⟨og, h1, h2⟩
      obtain ⟨og, hog, hgc⟩ := hg
      refine ks_wpAny_getMethod_super (K := X.K) hso (PySem.W.looks_opaque I1.kIn T.op) l1 rfl I1.kIn halong (I1.kIn _ _ hog) hgc (PySem.W.ks_ne KX J hC) hmn ?_
      have I2 := I1.kept (h' := h'.push { cls := Value.type "method", data := Data.fields #[Value.ref g, Value.ref a] }) (t' := s.toks + 1) fun b o e => Heap.get?_push_of_some _ e
      exact k _ _ I2 (Heap.get?_push_size _ rfl) ⟨I1.fresh, Nat.ne_of_gt I1.lt, I1.nofs (Nat.le_refl _)⟩
  obtain ⟨m, hm, hlook⟩ := I.loc
  obtain ⟨u, ru, lk⟩ := hlook i "self" (.ref a) hsf hσ hv
  obtain rfl : u = Value.ref a := ru
  rw [hself]
  rcases lk with ⟨k1, k2⟩ | ⟨k1 | k1, c, k2, k3⟩
  · exact wpAny_loadName_local hkind k1 hm k2 after
  · exact wpAny_loadName_cell hkind k1 k2 k3 after
  · exact wpAny_loadName_free hkind k1 k2 k3 after
theorem run_b {pins : List (Addr × Obj)} {σ : L2.St} {H : Hp} {s : Shared} {Q : VK} {us : List Value} {vs : List V} {a q : Addr} (F : FnD X.prog X.w X.K X.mg X.base k g fdg ps d) (hr : Room k X.A) (hg : X.A.guards = some []) (hb : Binds X.K fdg ps [])
    (tk : Takes X W) (I : Inv X pins σ H s) (r : Vals vs us) (h : cz X.K d (.ref a :: vs) H Q (WEx W σ)) (hq : s.heap.get? q = some (PySem.W.methodObj (.ref g) (.ref a))) : wpAny (model X.prog X.w) X.A (call (.ref q) us) (EP X pins σ Q) X.xe s := by
  have rr : Vals (V.ref a :: vs) (Value.ref a :: us) := .cons rfl r
  have hl : ((Value.ref a :: us) ++ []).length = ps.length := by
    obtain ⟨G, m, ys, F', P, _, q2, q3, _⟩ := id h
    rw [List.append_nil, ← rr.length, RVs.length q2]
    exact F.len _ _ _ _ q3
  have hbs := hb s (Value.ref a :: us) I.kIn hl
  rw [List.append_nil] at hbs
  refine wpAny_call (ks_codeAny_call_bound (a := ⟨us, []⟩) hq (codeAny_mono (F.run X.A X.stack s H ⟨Value.ref a :: us, []⟩ (Value.ref a :: us) (V.ref a :: vs) Q (WEx W σ) hg hr I.env0 hbs rr h) fun z s' hz => ?_))
  match z, hz with
  | .error e, hz => exact passAt tk σ pins H s e s' I hz
  | .ok (.ret u), hz => exact I.after hz
  | .ok .next, hz => exact False.elim hz
  | .ok .brk, hz => exact False.elim hz
  | .ok .cont, hz => exact False.elim hz
theorem pin_in {pins : List (Addr × Obj)} {s : Shared} {σ : L2.St} {H : Hp} {q : Addr} {o : Obj} (I : Inv X pins σ H s) (h : s.heap.get? q = some o) (hn : H q = none ∧ q ≠ X.env.locals ∧ ¬ q ∈ X.fs) (hc : ∀ v : Option Value, o.data ≠ .cell v) : Inv X ((q, o) :: pins) σ H s :=
  ⟨I.ok, I.os, I.bare, I.base, I.loc, I.cell, I.free, I.freeC, fun p hp => by
    rcases List.mem_append.mp hp with hp | hp
    · exact I.pin p (List.mem_append.mpr (.inl hp))
    · rcases List.mem_cons.mp hp with rfl | hp
      · exact ⟨h, hn.1, hn.2.1, hn.2.2, hc⟩
      · exact I.pin p (List.mem_append.mpr (.inr hp)), I.hok, I.len⟩
theorem pin_out {pins : List (Addr × Obj)} {s : Shared} {σ : L2.St} {H : Hp} {z : Addr × Obj} (I : Inv X (z :: pins) σ H s) : Inv X pins σ H s ∧ s.heap.get? z.1 = some z.2 :=
  ⟨⟨I.ok, I.os, I.bare, I.base, I.loc, I.cell, I.free, I.freeC, fun p hp => by
    rcases List.mem_append.mp hp with hp | hp
    · exact I.pin p (List.mem_append.mpr (.inl hp))
    · exact I.pin p (List.mem_append.mpr (.inr (List.mem_cons_of_mem _ hp))), I.hok, I.len⟩, (I.pin z (List.mem_append.mpr (.inr (by simp)))).1⟩
theorem dea_sup {pl : Sem Bool} (hsup : Gl X "super") (hms : X.mg "super" = none) (hcl : X.env.kindOf clsN = some .free) (hfu : X.env.func = some f) (hcd : X.env.code = cdv) (S : SupFact X.prog X.K f fd cdv cc D) (hcc : X.env.cells.lookup clsN = some cc)
    (hsf : X.N[i]? = some ("self" : Str)) (hv : Vis X.env.scope "self") (T : SupTo X.K C D mn g) (F : FnD X.prog X.w X.K X.mg X.base k g fdg ps d) (hr : Room k X.A) (hgd : X.A.guards = some []) (tk : Takes X W) (hb : Binds X.K fdg ps []) (ha : DA X W (e :: es) ta) (hmn : (mn == clsN) = false := by decide)
    (hst : starEach (e :: es) X.env = (false, eval e X.env) :: starEach es X.env := by rfl) (hpl : (((backTo pos (starEach (e :: es) X.env)).any fun x => x.fst) || ([] : List (Option Str × Sem Value)).any fun x => x.fst.isNone) = false := by rfl)
    (ht : eval (.Call (.Attribute (.Call (.Name "super" p0) [] [] p1) mn apos) (e :: es) [] pos) X.env = (attributeBase (.Call (.Name "super" p0) [] [] p1) mn X.env (eval (.Call (.Name "super" p0) [] [] p1) X.env) >>= fun ov => standAt apos.atName >>= fun _ => holding [ov] (getMethod ov mn pl) >>= fun z =>
      callWith pos z.1 z.2 (backTo pos (starEach (e :: es) X.env)) []) := by rfl) :
    DEA X W bd (.Call (.Attribute (.Call (.Name "super" p0) [] [] p1) mn apos) (e :: es) [] pos) (xSup C i d ta) := ⟨fun {G r m σ H F' P Q} rs rh hx cv cx pins s I => by
  obtain ⟨a, dx, gs, hra, hma, hx⟩ := hx
  obtain ⟨w, hσ, rw'⟩ := rs.get hra
  cases rw'.loc
  obtain ⟨fs, hH, hf⟩ := rh.ins hma
  have ha' := ha.run (Q := fun vs H1 => cz X.K d (.ref a :: vs) H1 Q (WEx W σ)) rs rh hx (fun vs ys G1 m1 H1 e1 rh1 rv1 q1 => ⟨G1, m1, .l a :: ys, F', P, rh1, .cons (.l a) rv1, q1, cv.mono e1, cx.mono e1⟩) cx
  refine sup_base hsup hms hcl hmn hfu hcd S hcc hsf hv T I hσ hH (fun q s1 I1 hq hn => ?_) ht
  have I2 := pin_in I1 hq hn (fun v h => by cases h)
  refine PySem.W.callWith_of (P := PySem.W.MethP X.K q g (.ref a)) hpl (PySem.W.keeps_M T.fn) ?_
  refine PyProof.Rows.evalArgs_kw2 (kws := []) rfl (thn (ha' pos _ s1 I2) fun us s2 ⟨vs, H2, I3, r2, q2⟩ => ?_) hst
  obtain ⟨I4, hq4⟩ := pin_out I3
  exact wpAny_pure ⟨⟨hq4, I4.kIn⟩, run_b F hr hgd hb tk I4 r2 q2 hq4⟩⟩
theorem dea_sup0 {pl : Sem Bool} (hsup : Gl X "super") (hms : X.mg "super" = none) (hcl : X.env.kindOf clsN = some .free) (hfu : X.env.func = some f) (hcd : X.env.code = cdv) (S : SupFact X.prog X.K f fd cdv cc D) (hcc : X.env.cells.lookup clsN = some cc)
    (hsf : X.N[i]? = some ("self" : Str)) (hv : Vis X.env.scope "self") (T : SupTo X.K C D mn g) (F : FnD X.prog X.w X.K X.mg X.base k g fdg ps d) (hr : Room k X.A) (hgd : X.A.guards = some []) (tk : Takes X W) (hb : Binds X.K fdg ps []) (hmn : (mn == clsN) = false := by decide)
    (ht : eval (.Call (.Attribute (.Call (.Name "super" p0) [] [] p1) mn apos) [] [] pos) X.env = (attributeBase (.Call (.Name "super" p0) [] [] p1) mn X.env (eval (.Call (.Name "super" p0) [] [] p1) X.env) >>= fun ov => standAt apos.atName >>= fun _ => holding [ov] (getMethod ov mn pl) >>= fun z =>
      callWith pos z.1 z.2 (backTo pos (starEach [] X.env)) []) := by rfl) :
    DEA X W bd (.Call (.Attribute (.Call (.Name "super" p0) [] [] p1) mn apos) [] [] pos) (xSup C i d xNil) := ⟨fun {G r m σ H F' P Q} rs rh hx cv cx pins s I => by
  obtain ⟨a, dx, gs, hra, hma, hx⟩ := hx
  obtain ⟨w, hσ, rw'⟩ := rs.get hra
  cases rw'.loc
  obtain ⟨fs, hH, hf⟩ := rh.ins hma
  refine sup_base hsup hms hcl hmn hfu hcd S hcc hsf hv T I hσ hH (fun q s1 I1 hq hn => ?_) ht
  refine PySem.W.callWith_of (P := PySem.W.MethP X.K q g (.ref a)) rfl (PySem.W.keeps_M T.fn) ?_
  exact wpAny_pure ⟨⟨hq, I1.kIn⟩, run_b (us := []) (vs := []) F hr hgd hb tk I1 .nil ⟨G, m, [.l a], F', P, rh, .cons (.l a) .nil, hx, cv, cx⟩ hq⟩⟩
end
end

/-! ### such a def, by its body -/
structure SFun (P : Program) (K : PySem.W.Frag) (x qual : Str) (st : Stmt) (f : Addr) (fd : FuncData) (cdv : Value) (cc D : Addr) : Prop where
  ex : ∃ oc od kV doc pm an ct osl, fd = PySem.W.ksFn x qual (defArgs st) (defBody st) (defScope st) .none kV doc pm an cdv ct cc ∧ K.lookup f = some ⟨oc, od, .func fd, osl⟩ ∧ PySem.W.codeIn K cdv qual = true
  kp : PySem.W.keepIn K (.ref f) = true
  sf : SupFact P K f fd cdv cc D
section
variable {pr : Program} {w : World} {K : PySem.W.Frag} {mg : Str → Option Value} {base : Heap} {x qual : Str} {st : Stmt} {f cc D : Addr} {fd : FuncData} {cdv : Value} {N ps : List Str} {k : Nat} {d : DSp}
theorem SFun.dok (F : SFun pr K x qual st f fd cdv cc D) (S : SupScope N ps (defScope st)) (t : XS)
    (hb : ∀ (A : Around) (outer : List Env) (s : Shared) (H : Hp) (E : XK), Bx (cxS pr w K mg base N qual (defScope st) f cdv cc A outer s H E) (WE1 E) k → PassesOwn (model pr w) (cxS pr w K mg base N qual (defScope st) f cdv cc A outer s H E).A (cxS pr w K mg base N qual (defScope st) f cdv cc A outer s H E).env (cxS pr w K mg base N qual (defScope st) f cdv cc A outer s H E).xe →
      DSsA (cxS pr w K mg base N qual (defScope st) f cdv cc A outer s H E) (WE1 E) (defBody st) (defBody st) t)
    (vc : ∀ ys m F P, d ys m F P → ys.length = ps.length ∧ t { nx := fun _ m => F (.d .none) m, rt := F, ex := fun c fs _ m => P c fs m } (startY N ys) m) : FnD pr w K mg base (k + 1) f fd ps d := by
  obtain ⟨oc, od, kV, doc, pm, an, ct, osl, rfl, lk, hcd⟩ := F.ex
  obtain ⟨ocl, hcc, hoc⟩ := F.sf.cell
  refine ⟨fun ys m F P h => (vc ys m F P h).1, fun A outer s H args us vs Q E hg hr e0 hbd r hsp => ?_⟩
  obtain ⟨G, m, ys, Fy, P, rh, rv, hd, cv, cx⟩ := hsp
  obtain ⟨hl, hvc⟩ := vc ys m Fy P hd
  have hlv : vs.length = ps.length := by rw [RVs.length rv]; exact hl
  have KX : K.In s.heap := e0.mod.kin.keeps fun b o e => (e0.bs b o e).1
  have hkind : ∀ y ∈ ps.zip us, (defScope st).names.lookup y.1 = some .local ∨ ((defScope st).names.lookup y.1 = some .cell ∧ ((cellsFrom (s.heap.objs.size + 1) (defScope st).names []).lookup y.1).isSome = true) := by
    rintro ⟨n, v⟩ hy
    have hn := (List.of_mem_zip hy).1
    have q := S.fs.par n hn
    rw [less_look _ (S.pin n hn)] at q
    exact q.imp id fun q => ⟨q, PySem.W.cellsFrom_some _ _ _ (.inl q)⟩
  refine codeAny_call_function hr.depth (KX _ _ lk) rfl S.fs.co S.fs.gen rfl (PySem.W.codeRec_of KX hcd) (hbd _ _ _ _ ?_)
  refine newFn_cl S.fs.kind hkind fun s1 x => ?_
  refine ⟨(e0.mod.nolimit.keeps fun b o e => (e0.bs b o e).1).keeps x.toInCall.keep, ks_codeAny_funcAt ?_⟩
  have gd : (A.deeper (envS qual (defScope st) s.heap.objs.size f cdv cc)).guards = some [] := hg
  have hbx : Bx (cxS pr w K mg base N qual (defScope st) f cdv cc A outer s H E) (WE1 E) k := ⟨hr.deeper _, gd, takes_of rfl rfl rfl rfl⟩
  have I := inv_sup (qual := qual) (f := f) (cd := cdv) (E := E) (N := N) S hr.hd e0 hlv r hcc hoc x
  have go := (hb A outer s H E hbx (passes_of rfl)).run (E := { nx := fun _ H' => Q .non H', rt := Q }) (start_rs (N := N) rv) rh hvc
    ⟨fun σ r G' m H' e1 _ rh1 q => cv .non _ G' m H' e1 rh1 (.d .non) q, fun v y G' m H' e1 rh1 rv1 q => cv v y G' m H' e1 rh1 rv1 q, fun _ _ _ _ _ _ _ _ q => q.elim, fun _ _ _ _ _ _ _ _ q => q.elim,
      fun c d fs σ r G' m H' e1 _ rh1 xf q => cx c d fs G' m H' e1 rh1 xf q⟩ [] s1 I
  have fin : ∀ {s' : Shared} {σ' : L2.St} {H' : Hp} {v : V} {u : Value}, Inv (cxS pr w K mg base N qual (defScope st) f cdv cc A outer s H E) [] σ' H' s' → RelV v u → Q v H' → CE outer pr w H s Q u s' :=
    fun J rv q => ⟨_, _, J.os, J.bare, J.base, J.hok, rv, q⟩
  refine ks_wpAt_mono go (fun fl s' hs => ?_) fun e s' hs => hs
  match fl, hs with
  | .ret u, ⟨v, σ', H', J, rv, q⟩ => exact fin J rv q
  | .next, ⟨σ', H', J, q⟩ => exact fin (v := V.non) (u := Value.none) J rfl q
  | .brk, ⟨_, _, _, q⟩ => exact False.elim q
  | .cont, ⟨_, _, _, q⟩ => exact False.elim q
end
end Dl
/-! D16: what is above, by what is known; one of several promises. -/
namespace Dl
open PySem PySem.Spec PyProof.Rows L2 Evl
section
variable {pr : Program} {w : World} {K : PySem.W.Frag} {mg : Str → Option Value} {base : Heap} {f : Addr} {fd : FuncData} {ps : List Str} {d d' : DSp} {k : Nat}
theorem FnD.or (F : FnD pr w K mg base k f fd ps d) (F' : FnD pr w K mg base k f fd ps d') : FnD pr w K mg base k f fd ps (fun ys m F P => d ys m F P ∨ d' ys m F P) := by
  refine ⟨fun ys m F1 P h => h.elim (F.len _ _ _ _) (F'.len _ _ _ _), fun A outer s H args us vs Q E hg hr e0 hb hv hc => ?_⟩
  obtain ⟨G, m, ys, F1, P, h1, h2, h3, h4, h5⟩ := hc
  rcases h3 with h3 | h3
  · exact F.run A outer s H args us vs Q E hg hr e0 hb hv ⟨G, m, ys, F1, P, h1, h2, h3, h4, h5⟩
  · exact F'.run A outer s H args us vs Q E hg hr e0 hb hv ⟨G, m, ys, F1, P, h1, h2, h3, h4, h5⟩
/-- the method that super() finds -/
structure UF (pr : Program) (w : World) (K : PySem.W.Frag) (mg : Str → Option Value) (base : Heap) (C D : Addr) (x : Str) (k : Nat) (g : Addr) (fd : FuncData) (ps : List Str) (d : DSp) : Prop where
  fn : FnD pr w K mg base k g fd ps d
  bn : Binds K fd ps []
  to : SupTo K C D x g
end
section
variable {X : Cx} {W : WX} {bd : List Stmt} {e : Expr} {es : List Expr} {pos : Pos} {t t' : XE} {ta : XA} {i j k : Nat} {f g cc C D : Addr} {fd fdg : FuncData} {cdv : Value} {mn : Str} {p0 p1 apos : Pos} {ps : List Str} {d : DSp}
theorem de_alt (h : DE X W e t) (h' : DE X W e t') : DE X W e (fun r m F P => t r m F P ∨ t' r m F P) := ⟨fun rs rh hx cv cx => by
  rcases hx with hx | hx
  · exact h.run rs rh hx cv cx
  · exact h'.run rs rh hx cv cx⟩
theorem dea_uf {pl : Sem Bool} (hms : X.mg "super" = none) (S : SupFact X.prog X.K f fd cdv cc D) (U : UF X.prog X.w X.K X.mg X.base C D mn k g fdg ps d) (hr : Room j X.A) (hgd : X.A.guards = some []) (tk : Takes X W) (ha : DA X W (e :: es) ta) (hk : k ≤ j := by decide)
    (hsup : Gl X "super" := by rfl) (hcl : X.env.kindOf clsN = some .free := by rfl) (hfu : X.env.func = some f := by rfl) (hcd : X.env.code = cdv := by rfl) (hcc : X.env.cells.lookup clsN = some cc := by rfl) (hsf : X.N[0]? = some ("self" : Str) := by rfl) (hv : Vis X.env.scope "self" := by first | exact .inl rfl | exact .inr (.inl rfl)) (hmn : (mn == clsN) = false := by decide)
    (hst : starEach (e :: es) X.env = (false, eval e X.env) :: starEach es X.env := by rfl) (hpl : (((backTo pos (starEach (e :: es) X.env)).any fun x => x.fst) || ([] : List (Option Str × Sem Value)).any fun x => x.fst.isNone) = false := by rfl)
    (ht : eval (.Call (.Attribute (.Call (.Name "super" p0) [] [] p1) mn apos) (e :: es) [] pos) X.env = (attributeBase (.Call (.Name "super" p0) [] [] p1) mn X.env (eval (.Call (.Name "super" p0) [] [] p1) X.env) >>= fun ov => standAt apos.atName >>= fun _ => holding [ov] (getMethod ov mn pl) >>= fun z =>
      callWith pos z.1 z.2 (backTo pos (starEach (e :: es) X.env)) []) := by rfl) :
    DEA X W bd (.Call (.Attribute (.Call (.Name "super" p0) [] [] p1) mn apos) (e :: es) [] pos) (xSup C 0 d ta) := dea_sup hsup hms hcl hfu hcd S hcc hsf hv U.to U.fn (hr.mono hk) hgd tk U.bn ha hmn hst hpl ht
theorem dea_uf0 {pl : Sem Bool} (hms : X.mg "super" = none) (S : SupFact X.prog X.K f fd cdv cc D) (U : UF X.prog X.w X.K X.mg X.base C D mn k g fdg ps d) (hr : Room j X.A) (hgd : X.A.guards = some []) (tk : Takes X W) (hk : k ≤ j := by decide)
    (hsup : Gl X "super" := by rfl) (hcl : X.env.kindOf clsN = some .free := by rfl) (hfu : X.env.func = some f := by rfl) (hcd : X.env.code = cdv := by rfl) (hcc : X.env.cells.lookup clsN = some cc := by rfl) (hsf : X.N[0]? = some ("self" : Str) := by rfl) (hv : Vis X.env.scope "self" := by first | exact .inl rfl | exact .inr (.inl rfl)) (hmn : (mn == clsN) = false := by decide)
    (ht : eval (.Call (.Attribute (.Call (.Name "super" p0) [] [] p1) mn apos) [] [] pos) X.env = (attributeBase (.Call (.Name "super" p0) [] [] p1) mn X.env (eval (.Call (.Name "super" p0) [] [] p1) X.env) >>= fun ov => standAt apos.atName >>= fun _ => holding [ov] (getMethod ov mn pl) >>= fun z =>
      callWith pos z.1 z.2 (backTo pos (starEach [] X.env)) []) := by rfl) :
    DEA X W bd (.Call (.Attribute (.Call (.Name "super" p0) [] [] p1) mn apos) [] [] pos) (xSup C 0 d xNil) := dea_sup0 hsup hms hcl hfu hcd S hcc hsf hv U.to U.fn (hr.mono hk) hgd tk U.bn hmn ht
/-- a, b, c = .. -/
abbrev xPar3 (i j l : Nat) (ta : XA) : XS := fun D r m => ta r m (fun ys m1 => ∃ y z w, ys = [y, z, w] ∧ D.nx (((r.set i (some y)).set j (some z)).set l (some w)) m1) (D.at r)
theorem rvs3 {K : PySem.W.Frag} {G : Hp} {vs : List V} {y z u : Y} (h : RVs K G vs [y, z, u]) : ∃ v w x, vs = [v, w, x] ∧ RV K G v y ∧ RV K G w z ∧ RV K G x u := by
  cases h with
  | cons h t =>
    obtain ⟨v, w, rfl, h1, h2⟩ := rvs2 t
    exact ⟨_, _, _, rfl, h, h1, h2⟩
theorem ds_par3 {i j l : Nat} {x y z : Str} {a b c : Expr} {tx : XA} {px py pz pt : Pos} {kt k2 pt2} (hc : X.calm = true) (hN : X.N.Nodup) (hi : X.N[i]? = some x) (hj : X.N[j]? = some y) (hl : X.N[l]? = some z) (hij : i ≠ j) (hil : i ≠ l) (hjl : j ≠ l)
    (hx : X.env.scope.names.lookup x = some .local) (hy : X.env.scope.names.lookup y = some .local) (hz : X.env.scope.names.lookup z = some .local) (ha : DA X W [a, b, c] tx)
    (hw : swappedStores [.Tuple [.Name x px, .Name y py, .Name z pz] kt pt] (.Tuple [a, b, c] k2 pt2) X.env = pure (some [x, y, z]))
    (hs : swapsWithSole [.Tuple [.Name x px, .Name y py, .Name z pz] kt pt] (.Tuple [a, b, c] k2 pt2) pos.line X.env = pure false := by rfl) :
    DS X W (.Assign [.Tuple [.Name x px, .Name y py, .Name z pz] kt pt] (.Tuple [a, b, c] k2 pt2) pos) (xPar3 i j l tx) := ⟨fun {G r m σ H D E} rs rh hx' f =>
  ss_of (ps_par3 hc hN hi hj hl hij hil hjl hx hy hz sa_pa hw hs) (ha.run rs rh hx' (fun vs ys G1 m1 H1 e1 rh1 rv1 ⟨y1, z1, w1, q, q2⟩ => by
    subst q
    obtain ⟨v, w, u, rfl, r1, r2, r3⟩ := rvs3 rv1
    exact ⟨v, w, u, rfl, f.nx _ _ G1 m1 H1 e1 ((((rs.mono e1).set r1 i).set r2 j).set r3 l) rh1 q2⟩) (f.cx rs))⟩
/-- int(flag) -/
abbrev xIntB : XRC := fun ys m F => ∃ b : Bool, ys = [.d (.bool b)] ∧ F (.d (.int (if b = true then 1 else 0))) m
theorem cd_int : CallD X (.type "int") xIntB := ⟨_, call_int1, fun {G m H vs ys F Q} rh rv hx cv => by
  obtain ⟨b, rfl, f⟩ := hx
  obtain ⟨v, rfl, r1⟩ := rvs1 rv
  refine .inr ⟨b, by rw [r1.bl], ?_⟩
  have := cv.at (v := V.int (if b = true then 1 else 0)) rh (.d (Da.int _)) f
  cases b <;> exact this⟩
end
end Dl
namespace Dl
open PySem PySem.Spec PyProof.Rows L2 Evl
theorem SFun.binds {P : Program} {K : PySem.W.Frag} {x qual : Str} {st : Stmt} {f cc D : Addr} {fd : FuncData} {cdv : Value} {ps : List Str} (F : SFun P K x qual st f fd cdv cc D)
    (h : ∀ (kV doc pm : Value) (an : Option Addr) (ct : Value) (us : List Value), us.length = ps.length → bindArgs (PySem.W.ksFn x qual (defArgs st) (defBody st) (defScope st) .none kV doc pm an cdv ct cc) { pos := us } = pure (ps.zip us)) : L2.Binds K fd ps [] := by
  obtain ⟨oc, od, kV, doc, pm, an, ct, osl, rfl, _, _⟩ := F.ex
  intro s us _ hl
  rw [List.append_nil] at hl ⊢
  exact .of_eq (h _ _ _ _ _ us hl)
end Dl
/-! D17: max of a list of pairs of whole numbers; a whole number in a tuple of them. -/
namespace Dl
open PySem PySem.Spec PyProof.Rows L2 Evl
section
variable {X : Cx} {W : WX} {K : PySem.W.Frag} {G H : Hp} {m : Mu}
def mxP (p : Int × Int) (ps : List (Int × Int)) : Int × Int := ps.foldl (fun a y => if PySem.W.dataLt (prD a) (prD y) = true then y else a) p
theorem mxP_data : ∀ (ps : List (Int × Int)) (p : Int × Int), PySem.W.maxD (prD p) (ps.map prD) = prD (mxP p ps)
  | [], _ => rfl
  | q :: ps, p => by
    show PySem.W.maxD (if PySem.W.dataLt (prD p) (prD q) = true then prD q else prD p) (ps.map prD) = prD (mxP (if PySem.W.dataLt (prD p) (prD q) = true then q else p) ps)
    rw [← mxP_data ps]
    congr 1
    split <;> rfl
theorem mxP_mem : ∀ (ps : List (Int × Int)) (p : Int × Int), mxP p ps ∈ p :: ps
  | [], p => by simp [mxP]
  | q :: ps, p => by
    show mxP (if PySem.W.dataLt (prD p) (prD q) = true then q else p) ps ∈ _
    have h := mxP_mem ps (if PySem.W.dataLt (prD p) (prD q) = true then q else p)
    rcases List.mem_cons.mp h with h | h
    · rw [h]
      split <;> simp
    · simp [h]
theorem pr_facts (ps : List (Int × Int)) : PyData.hasDictAll (ps.map prD) = false ∧ PyData.depthAll (ps.map prD) ≤ 3 := by
  induction ps with
  | nil => simp [PyData.hasDictAll, PyData.depthAll]
  | cons p ps ih =>
    obtain ⟨h1, h2⟩ := ih
    refine ⟨by simp [PyData.hasDictAll, prD, PyData.hasDict, h1], ?_⟩
    simp [PyData.depthAll, prD, PyData.depth]
    omega
theorem pr_alike (ps : List (Int × Int)) : PySem.W.AlikeAll (ps.map prD) := by
  refine ⟨fun x hx y hy => ?_, fun x hx => ?_⟩
  · obtain ⟨p, _, rfl⟩ := List.mem_map.mp hx
    obtain ⟨q, _, rfl⟩ := List.mem_map.mp hy
    rfl
  · obtain ⟨p, _, rfl⟩ := List.mem_map.mp hx
    intro h; cases h
abbrev xMaxP : XRC := fun ys m F => ∃ p ps, ys = [.d (.list ((p :: ps).map prD))] ∧ F (.d (prD (mxP p ps))) m
theorem cd_maxP (hc : X.calm = true) (hu : X.A.units + 64 < cLine) : CallD X (.builtin "max") xMaxP := by
  refine ⟨fun vs H Q => ∃ a xs p ps, vs = [V.ref a] ∧ SqL X.K H a xs ∧ DaAll X.K H xs ((p :: ps).map prD) ∧ ∀ (i : Nat) (v : V), xs[i]? = some v → ((p :: ps).map prD)[i]? = some (prD (mxP p ps)) → Q v H, ?_, fun {G m H vs ys F Q} rh rv hx cv => ?_⟩
  · intro pins s σ H vs us Q I r ⟨a, xs, p, ps, ev, hs, hd, q⟩
    subst ev
    obtain ⟨its, rv, hl, hz⟩ := I.list hs
    obtain ⟨u, rfl, ru⟩ := vals1 r
    obtain rfl : u = Value.ref a := ru
    obtain ⟨f1, f2⟩ := pr_facts (p :: ps)
    obtain ⟨as, rd⟩ := DaAll.reads I f1 hd rv
    refine PySem.W.max_list_data (as := as) (I.ok.hd hc) hl.isList (by rw [List.toList_toArray]; exact rd) (pr_alike (p :: ps)) (by
      have f2' : PyData.depthAll (prD p :: ps.map prD) ≤ 3 := f2
      omega) fun i v h' tk bs hi hr keep => ?_
    rw [List.getElem?_toArray] at hi
    have I' := I.kept (t' := tk) keep
    have hlen := rv.length
    obtain ⟨hil, _⟩ := List.getElem?_eq_some_iff.mp hi
    have hix : i < xs.length := by rw [hlen]; exact hil
    have hw : xs[i]? = some xs[i] := List.getElem?_eq_getElem hix
    have hrel : RelV xs[i] v := by
      have go : ∀ {xs : List V} {its : List Value} {i : Nat} {x : V} {v : Value}, Vals xs its → xs[i]? = some x → its[i]? = some v → RelV x v := by
        intro xs its i x v h
        induction h generalizing i with
        | nil => intro e; simp at e
        | cons h t ih =>
          intro e1 e2
          cases i with
          | zero => simp at e1 e2; subst e1 e2; exact h
          | succ i => exact ih (by simpa using e1) (by simpa using e2)
      exact go rv hw hi
    obtain ⟨d, hd1, hd2⟩ := DaAll.get' hd hw
    have hmem : d ∈ (p :: ps).map prD := List.mem_of_getElem? hd1
    obtain ⟨pp, _, rfl⟩ := List.mem_map.mp hmem
    obtain ⟨as2, hr2⟩ := Da.reads I' (by simp [prD, PyData.hasDict, PyData.hasDictAll]) hd2 hrel
    have e : prD pp = PySem.W.maxD (prD p) (ps.map prD) := PySem.SeqAt.Reads.unique _ _ v _ _ (by simp [prD, PyData.canLay0, PyData.canLayAll0]) hr2 hr
    rw [mxP_data] at e
    exact ⟨xs[i], H, I', hrel, q i _ hw (by rw [hd1, e])⟩
  · obtain ⟨p, ps, rfl, f⟩ := hx
    obtain ⟨v, rfl, rw⟩ := rvs1 rv
    obtain ⟨a, ws, rfl, s1, q1⟩ := rw.lst
    refine ⟨a, ws, p, ps, rfl, .inl (rd_sub rh s1), q1.mono rh.sub, fun i v hi hd => ?_⟩
    obtain ⟨d, hd1, hd2⟩ := DaAll.get' q1 hi
    rw [hd] at hd1
    cases hd1
    exact cv.at rh (.d hd2) f
/-- a whole number in a list of them -/
theorem inD_int {i : Int} : ∀ {ns : List Int}, inD (.int i) (ns.map PyData.int) = decide (i ∈ ns) := by
  intro ns
  unfold inD inV
  induction ns with
  | nil => rfl
  | cons n ns ih =>
    rw [List.map_cons, List.map_cons, List.any_cons, ih]
    have e : eqV (toV (.int n)) (toV (.int i)) = decide (n = i) := rfl
    rw [e]
    by_cases h : n = i
    · subst h; simp
    · have h' : ¬ i = n := fun z => h z.symm
      simp [h, h']
end
end Dl
/-! D18: sorted of data, list or tuple; remove. -/
namespace Dl
open PySem PySem.Spec PyProof.Rows L2 Evl PySem.W
section
variable {pr : Program} {w : World} {A : Around} {E : Value → Shared → Prop} {s : Shared}
theorem collectT {t : Addr} {us : List Value} {Q : List Value → Shared → Prop} (ht : s.heap.IsTuple t us.toArray) (hz : us.length ≤ sizeLine)
    (h : Q us { s with heap := (s.heap.push (seqObj "list" #[] 0)).update s.heap.objs.size (Obj.mapSeq (· ++ us.toArray)) }) : wpAny (model pr w) A (collect (.ref t)) Q E s := by
  obtain ⟨o, e1, e2, n, e3⟩ := id ht
  have e1' := Heap.get?_push_of_some (seqObj "list" #[] 0) e1
  unfold collect
  refine wpAny_bind (wpAny_runValue (codeAny_builtin entry_proto_collect' (show wpAny _ _ (do again (.builtin "list.__iadd__" ⟨[← newList [], .ref t], []⟩)) _ _ s from ?_)))
  refine wpAny_bind (wpAny_newList (wpAny_pure ⟨Code.quiet_builtin _ (by decide +kernel), codeAny_builtin entry_list_iadd' (show wpAny _ _ (Builtin.List.listExtendWith (.ref s.heap.objs.size) (.ref t) (.ref s.heap.objs.size)) _ _ { s with heap := s.heap.push (seqObj "list" #[] 0) } from ?_)⟩))
  unfold Builtin.List.listExtendWith
  refine wpAny_bind (wpAny_typeOf (T := "tuple") ⟨o, e1', e2⟩ ?_)
  rw [if_pos (by rw [show (Value.type "tuple" == Value.type "tuple") = true from rfl]; simp)]
  refine wpAny_bind (listItems_at e1' e3 (wpAny_bind (listItems_at (xs := #[]) (n := 0) (Heap.get?_push_size _ rfl) rfl ?_)))
  rw [if_neg (by simp)]
  have hz' : (#[] ++ us.toArray).size ≤ sizeLine + 1 := by simp only [Array.size_append, List.size_toArray, List.length_nil]; omega
  refine wpAny_bind (listUpdate_at (xs := #[]) (n := 0) (Heap.get?_push_size _ rfl) rfl (wpAny_pure (show wpAny (model pr w) A (do
      let o ← load s.heap.objs.size
      match o.data with
      | .seq z _ => pure z.toList
      | _ => unsupported "internal:collect") Q E { s with heap := (s.heap.push (seqObj "list" #[] 0)).update s.heap.objs.size (Obj.mapSeq (· ++ us.toArray)) } from ?_)) (Nat.zero_le _) hz')
  refine wpAny_bind (wpAny_load (get?_update_seq (Heap.get?_push_size _ rfl) _) (show wpAny _ _ (pure ((#[] : Array Value) ++ us.toArray).toList) Q E _ from ?_))
  rw [show ((#[] : Array Value) ++ us.toArray).toList = us by simp]
  exact wpAny_pure h
theorem sortedT {β : Type} {R : Value → β → Prop} {enc : β → PyData} {bs : List β} {t : Addr} {us : List Value} {Q : Value → Shared → Prop} (ht : s.heap.IsTuple t us.toArray) (e : EachIs R us bs) (er : EachIs (fun v b => ∃ as, Reads s.heap v (enc b) as) us bs)
    (hal : AllAlike (bs.map enc)) (hk : Sortable (bs.map enc)) (hL : bs.length ≤ sizeLine) (hu : ∀ b, b ∈ bs → A.units + 2 + (enc b).depth < cLine)
    (h : ∀ out, out.length = bs.length → EachIs R out (bs.mergeSort (dataLe false enc)) → Q (.ref (s.heap.objs.size + 1)) { s with heap := sortedAll s.heap us (List.toArray out) }) : wpAny (model pr w) A (call (.builtin "sorted") [.ref t]) Q E s := by
  have hz : us.length ≤ sizeLine := by rw [e.length]; exact hL
  have er' : EachIs (fun v b => ∃ as, Reads (sortingHeap (copyHeap s.heap us) (s.heap.objs.size + 1) us) v (enc b) as) us bs := er.mono fun _ _ ⟨x, r⟩ => ⟨x, PyProof.Rows.Reads.keeps (fun _ _ => sorting_copy_old) r⟩
  have bnd : ∀ d, d ∈ bs.map enc → A.in1.in1.units + d.depth < cLine := fun d hd => by
    obtain ⟨b, hb, rfl⟩ := List.mem_map.mp hd
    exact hu b hb
  have S := SortsAt.data (prog := pr) (w := w) (A := A.in1.in1) (s := { s with heap := sortingHeap (copyHeap s.heap us) (s.heap.objs.size + 1) us }) (each_map (R := fun v d => ∃ x, Reads (sortingHeap (copyHeap s.heap us) (s.heap.objs.size + 1) us) v d x) enc er') hal hk bnd
  have fin := h _ (by rw [sortVals_length false rfl]; exact e.length) (sortVals_data false e er' hal)
  refine call_function_entry_kw kind_sorted plain_sorted entry_sorted (args_sorted1 _) ?_
  unfold Builtin.«sorted»
  refine wpAny_bind (m := checkCount "sorted" 1 1 _) (wpAny_pure (wpAny_bind (collectT ht hz (wpAny_bind (wpAny_newList ?_ hz)))))
  have sz : ((s.heap.push (seqObj "list" #[] 0)).update s.heap.objs.size (Obj.mapSeq (· ++ us.toArray))).objs.size = s.heap.objs.size + 1 := by rw [Heap.size_update, size_push']
  show wpAny _ _ _ _ _ { s with heap := copyHeap s.heap us }
  rw [sz]
  refine wpAny_bind (wpAny_holding (wpAny_call_entry_kw slot_list_sort ⟨_, copyHeap_at s.heap us, rfl⟩ entry_list_sort (show wpAny (model pr w) A.in1.in1 (Builtin.«list.sort» ⟨[.ref (s.heap.objs.size + 1)], []⟩) _ _ _ from ?_) (args_list_sort _)))
  refine wpAny_mono (list_sort_vals (s := { s with heap := copyHeap s.heap us }) (P := fun f s' => f = .done (.ret .none) ∧ Q (.ref (s.heap.objs.size + 1)) s') (copyHeap_at s.heap us) S hz ⟨rfl, fin⟩) (fun f s' hf => ?_) fun _ _ e => e
  obtain ⟨rfl, hq⟩ := hf
  exact ⟨_, rfl, wpAny_pure ⟨_, rfl, hq⟩⟩
end
section
variable {X : Cx} {K : PySem.W.Frag} {G H : Hp} {m : Mu}
/-- data in order -/
def srtD (ds : List PyData) : List PyData := ds.mergeSort (dataLe false id)
abbrev xSortedD : XRC := fun ys m F => ∃ y ds, ys = [y] ∧ SqY m y (ds.map Y.d) ∧ AllAlike ds ∧ Sortable ds ∧ PyData.hasDictAll ds = false ∧ ds.length ≤ 10000 ∧ (∀ d ∈ ds, d.depth ≤ 20) ∧ F (.d (.list (srtD ds))) m
theorem each_vals {α : Type} {f : α → V} : ∀ {us : List Value} {bs : List α}, EachIs (fun v b => RelV (f b) v) us bs → Vals (bs.map f) us
  | _, _, .nil => .nil
  | _, _, .cons h t => .cons h (each_vals t)
theorem das_zip : ∀ {vs : List V} {ds : List PyData}, DaAll K H vs ds → ∀ z ∈ vs.zip ds, Da K H z.1 z.2
  | _, _, .nil, z, hz => nomatch hz
  | _, _, .cons h t, z, hz => by
    rw [List.zip_cons_cons] at hz
    rcases List.mem_cons.mp hz with rfl | hz
    · exact h
    · exact das_zip t z hz
theorem das_unzip : ∀ {zs : List (V × PyData)}, (∀ z ∈ zs, Da K H z.1 z.2) → DaAll K H (zs.map (·.1)) (zs.map (·.2))
  | [], _ => .nil
  | z :: zs, h => .cons (h z (by simp)) (das_unzip fun x hx => h x (by simp [hx]))
theorem cd_sortedD (hu : X.A.units + 64 < cLine) : CallD X (.builtin "sorted") xSortedD := by
  refine ⟨fun vs H Q => ∃ a xs ds, vs = [V.ref a] ∧ (SqL X.K H a xs ∨ SqT X.K H a xs) ∧ DaAll X.K H xs ds ∧ AllAlike ds ∧ Sortable ds ∧ PyData.hasDictAll ds = false ∧ ds.length ≤ sizeLine ∧ (∀ d ∈ ds, d.depth ≤ 20) ∧
    ∀ (zs : List (V × PyData)) d, H d = none → zs.Perm (xs.zip ds) → zs.map (·.2) = srtD ds → Q (.ref d) (upd H d (.lst (zs.map (·.1)))), ?_, fun {G m H vs ys F Q} rh rv hx cv => ?_⟩
  · intro pins s σ H vs us Q I r ⟨a, xs, ds, ev, hs, hda, hal, hk, hnd, hl, hdp, q⟩
    subst ev
    obtain ⟨u, rfl, ru⟩ := vals1 r
    obtain rfl : u = Value.ref a := ru
    have hxl : xs.length = ds.length := hda.length
    have e2 : (xs.zip ds).map (·.2) = ds := by rw [List.map_snd_zip]; omega
    have e1 : (xs.zip ds).map (·.1) = xs := by rw [List.map_fst_zip]; omega
    have zl : (xs.zip ds).length = ds.length := by rw [List.length_zip]; omega
    have go : ∀ its : List Value, Vals xs its → (s.heap.IsList a its.toArray ∨ s.heap.IsTuple a its.toArray) → wpAny (model X.prog X.w) X.A (call (.builtin "sorted") [.ref a]) (EP X pins σ Q) X.xe s := by
      intro its rvs hc
      have e : ∀ {xs : List V} {ds : List PyData} {its : List Value}, xs.length = ds.length → Vals xs its → EachIs (fun v (b : V × PyData) => RelV b.1 v) its (xs.zip ds) := by
        intro xs
        induction xs with
        | nil => intro ds its h r; cases r; exact .nil
        | cons x xs ih =>
          intro ds its h r
          cases ds with
          | nil => simp at h
          | cons d ds => cases r with | cons r1 r2 => exact .cons r1 (ih (by simpa using h) r2)
      have er : ∀ {xs : List V} {ds : List PyData} {its : List Value}, PyData.hasDictAll ds = false → DaAll X.K H xs ds → Vals xs its → EachIs (fun v (b : V × PyData) => ∃ as, Reads s.heap v b.2 as) its (xs.zip ds) := by
        intro xs
        induction xs with
        | nil => intro ds its nd h r; cases h; cases r; exact .nil
        | cons x xs ih =>
          intro ds its nd h r
          cases h with
          | cons h t =>
            simp [PyData.hasDictAll] at nd
            cases r with | cons r1 r2 => exact .cons (Da.reads I nd.1 h r1) (ih nd.2 t r2)
      have fin : ∀ out : List Value, out.length = (xs.zip ds).length → EachIs (fun v (b : V × PyData) => RelV b.1 v) out ((xs.zip ds).mergeSort (dataLe false (fun b => b.2))) →
          EP X pins σ Q (.ref (s.heap.objs.size + 1)) { s with heap := sortedAll s.heap its (List.toArray out) } := by
        intro out ho hr
        obtain ⟨n, hn⟩ := sortedAll_at s.heap its out.toArray
        have hd : s.heap.objs.size ≤ s.heap.objs.size + 1 := Nat.le_succ _
        have pm := List.mergeSort_perm (xs.zip ds) (dataLe false (fun b => b.2))
        have sm : ((xs.zip ds).mergeSort (dataLe false (fun b => b.2))).map (·.2) = srtD ds := by
          have z := List.map_mergeSort (r := dataLe false fun b : V × PyData => b.2) (s := dataLe false id) (f := fun b : V × PyData => b.2) (l := xs.zip ds) (fun _ _ _ _ => rfl)
          rw [z, e2]; rfl
        have f := q _ (s.heap.objs.size + 1) (I.hok.fresh hd) pm sm
        have ly : (((xs.zip ds).mergeSort (dataLe false (fun b => b.2))).map (·.1)).length ≤ sizeLine := by rw [List.length_map, pm.length_eq, zl]; exact hl
        exact ⟨.ref _, upd H _ (.lst _), I.laid (t' := s.toks) (fun _ _ => sortedAll_old) hd ⟨ly, out, n, each_vals hr, hn⟩, rfl, f⟩
      rcases hc with hc | hc
      · exact PySem.W.sorted_data hc (e hxl rvs) (er hnd hda rvs) (by rw [e2]; exact hal) (by rw [e2]; exact hk) (by rw [zl]; exact hl) (fun b hb => by have := hdp b.2 (by rw [← e2]; exact List.mem_map_of_mem hb); omega) fin
      · exact sortedT hc (e hxl rvs) (er hnd hda rvs) (by rw [e2]; exact hal) (by rw [e2]; exact hk) (by rw [zl]; exact hl) (fun b hb => by have := hdp b.2 (by rw [← e2]; exact List.mem_map_of_mem hb); omega) fin
    rcases hs with hs | hs
    · obtain ⟨its, r1, h1, _⟩ := I.list hs
      exact go its r1 (.inl h1.isList)
    · obtain ⟨its, r1, h1, _⟩ := I.tuple hs
      exact go its r1 (.inr h1)
  · obtain ⟨y, ds, rfl, hs, hal, hk, hnd, hl, hdp, f⟩ := hx
    obtain ⟨v, rfl, rw⟩ := rvs1 rv
    obtain ⟨p, ws, rfl, s1, q1⟩ := sqY_ok rh rw hs
    have q2 := RVs.das q1
    refine ⟨p, ws, ds, rfl, s1, q2.mono rh.sub, hal, hk, hnd, Nat.le_trans hl szl, hdp, fun zs d hd hz hs => ?_⟩
    have r1 := das_unzip fun z h => das_zip q2 z (hz.mem_iff.mp h)
    rw [hs] at r1
    exact lstD_ok rh r1.rvs hd f cv
/-- l.remove(x), x in l -/
abbrev xRemD : XRM := fun y ys m F => ∃ p ds d j, y = .l p ∧ ys = [.d d] ∧ m p = some (.lst (ds.map Y.d)) ∧ PyData.plainAll ds = true ∧ d.plain = true ∧ PyData.hasDictAll ds = false ∧ d.hasDict = false ∧ d.depth ≤ 20 ∧ SeqAt.dataPlace ds d = some j ∧ F (.d .none) (mu m p (.lst ((ds.eraseIdx j).map Y.d)))
theorem md_removeD (hu : X.A.units + 64 < cLine) : MtD X "list.remove" xRemD := by
  refine ⟨fun x xs H Q => ∃ l ys y ds d j, x = .ref l ∧ xs = [y] ∧ H l = some (.lst ys) ∧ DaAll X.K H ys ds ∧ Da X.K H y d ∧ PyData.plainAll ds = true ∧ d.plain = true ∧ PyData.hasDictAll ds = false ∧ d.hasDict = false ∧ d.depth ≤ 20 ∧ SeqAt.dataPlace ds d = some j ∧ Q .non (upd H l (.lst (ys.eraseIdx j))), ?_, fun {G m H v y vs ys F Q} rh rv rvs hx cv => ?_⟩
  · intro pins s σ H x xs v us Q I rx rxs ⟨l, ys, y, ds, d, j, ex, exs, hl, h1, h2, p1, p2, n1, n2, hd, hp, q⟩
    subst ex exs
    cases rx
    obtain ⟨u, rfl, ru⟩ := rxs.one
    obtain ⟨z, its, n, r, hlen, e⟩ := I.lstM hl
    obtain ⟨as, rs⟩ := DaAll.reads I n1 h1 r
    obtain ⟨bs, rx⟩ := Da.reads I n2 h2 ru
    refine SeqAt.remove_list_data (vs := its.toArray) ⟨_, e, rfl, n, rfl⟩ (by simpa using rs) rx p1 p2 (by omega) hp (by rw [List.size_toArray]; omega) ⟨.non, _, I.lset (its' := its.eraseIdx j) (t' := s.toks) hl e ?_ (r.eraseIdx j) (Nat.le_trans (List.length_eraseIdx_le _ _) z), rfl, q⟩
    show its.toArray.eraseIdxIfInBounds j = (its.eraseIdx j).toArray
    rw [List.eraseIdxIfInBounds_toArray]
  · obtain ⟨p, ds, d, j, rfl, rfl, hm, p1, p2, n1, n2, hd, hp, f⟩ := hx
    obtain ⟨w, rfl, rw⟩ := rvs1 rvs
    cases rv.loc
    obtain ⟨ws, e3, q⟩ := rh.lst hm
    have qd := RVs.das q
    refine ⟨p, ws, w, ds, d, j, rfl, rfl, e3, qd.mono rh.sub, rw.da.mono rh.sub, p1, p2, n1, n2, hd, hp, ?_⟩
    have e4 : RVs X.K G (ws.eraseIdx j) ((ds.eraseIdx j).map Y.d) := by
      have := q.eraseIdx j
      have e5 : (ds.map Y.d).eraseIdx j = (ds.eraseIdx j).map Y.d := by
        have go : ∀ (ds : List PyData) (j : Nat), (ds.map Y.d).eraseIdx j = (ds.eraseIdx j).map Y.d := by
          intro ds
          induction ds with
          | nil => intro j; rfl
          | cons d ds ih => intro j; cases j with
            | zero => rfl
            | succ j => exact congrArg (Y.d d :: ·) (ih j)
        exact go ds j
      rw [e5] at this
      exact this
    exact cv .non _ G _ _ (Ex.refl G) (rh.write hm (.lst e4)) (.d .non) f
/-- repr of what is data now -/
abbrev xReprM : XRC := fun ys m F => ∃ y d, ys = [y] ∧ DeepY m y d ∧ d.showable = true ∧ d.hasDict = false ∧ d.depth ≤ 40 ∧ cst d ≤ 10000000 ∧ F (.d (.str d.shown)) m
theorem cr_reprD (hg : X.A.guards = some []) (hu : X.A.units + 64 < cLine) : CallR X (.builtin "repr") (fun vs H Q => ∃ v d, vs = [v] ∧ Da X.K H v d ∧ d.showable = true ∧ d.hasDict = false ∧ d.depth ≤ 40 ∧ d.shown.length ≤ sizeLine ∧ Q (.str d.shown) H) := by
  intro pins s σ H vs us Q I r ⟨v, d, ev, hd, h1, h2, h3, h4, q⟩
  subst ev
  obtain ⟨u, rfl, ru⟩ := vals1 r
  obtain ⟨as, rd⟩ := Da.reads I h2 hd ru
  cases hd with
  | non => cases ru; exact PySem.P.repr_of_none ⟨.str _, H, I.tok _, ⟨_, rfl⟩, q⟩
  | bl b => cases ru; exact PySem.P.repr_of_bool ⟨.str _, H, I.tok _, ⟨_, rfl⟩, q⟩
  | int i =>
    obtain ⟨t, rfl⟩ := ru
    exact PySem.P.repr_of_int (by simpa [PyData.showable] using h1) ⟨.str _, H, I.tok _, ⟨_, rfl⟩, q⟩
  | str x =>
    obtain ⟨t, rfl⟩ := ru
    exact PySem.P.repr_of_str ⟨.str _, H, I.tok _, ⟨_, rfl⟩, q⟩ h4
  | lst _ _ =>
    cases ru
    exact repr_of_reads' rd h1 (PyData.noDict_hsm h2) hg (by omega) (fun _ _ z => z) (fun h' t tk k => ⟨.str _, H, I.kept k, ⟨_, rfl⟩, q⟩) h4
  | tup _ _ =>
    cases ru
    exact repr_of_reads' rd h1 (PyData.noDict_hsm h2) hg (by omega) (fun _ _ z => z) (fun h' t tk k => ⟨.str _, H, I.kept k, ⟨_, rfl⟩, q⟩) h4
  | dic _ _ _ _ => simp [PyData.hasDict] at h2
theorem cd_reprM (hg : X.A.guards = some []) (hu : X.A.units + 64 < cLine) : CallD X (.builtin "repr") xReprM := ⟨_, cr_reprD hg hu, fun {G m H vs ys F Q} rh rv hx cv => by
  obtain ⟨y, d, rfl, hy, g1, g2, g3, g4, f⟩ := hx
  obtain ⟨v, rfl, rw⟩ := rvs1 rv
  exact ⟨v, d, rfl, hy.da rh rw, g1, g2, g3, Nat.le_trans (cst_ok d g1 g2) (Nat.le_trans g4 (by decide)), cv.at rh (.d (.str _)) f⟩⟩
end
end Dl
/-! D39: keyword arguments of methods and constructors. -/
namespace Dl
open PySem PySem.Spec PyProof.Rows L2 Evl

/-- the parameters' values: where each stands among the values that are given -/
def pickL {α : Type} (ix : List Nat) (xs : List α) : List α := ix.filterMap fun i => xs[i]?
theorem vals_none {vs : List V} {us : List Value} (r : Vals vs us) {i : Nat} (h : vs[i]? = none) : us[i]? = none := by
  rw [List.getElem?_eq_none_iff] at h ⊢
  rw [← r.length]; exact h
theorem pick_rel {vs : List V} {us : List Value} (r : Vals vs us) : ∀ ix : List Nat, Vals (pickL ix vs) (pickL ix us)
  | [] => .nil
  | i :: ix => by
    unfold pickL
    rw [List.filterMap_cons, List.filterMap_cons]
    cases h : vs[i]? with
    | none =>
      rw [vals_none r h]
      exact pick_rel r ix
    | some v =>
      obtain ⟨u, hu, ru⟩ := r.get h
      rw [hu]
      exact .cons ru (pick_rel r ix)
theorem pick_rvs {K : PySem.W.Frag} {G : Hp} {vs : List V} {ys : List Y} (r : RVs K G vs ys) : ∀ ix : List Nat, RVs K G (pickL ix vs) (pickL ix ys)
  | [] => .nil
  | i :: ix => by
    unfold pickL
    rw [List.filterMap_cons, List.filterMap_cons]
    cases h : ys[i]? with
    | none =>
      have e : vs[i]? = none := by
        rw [List.getElem?_eq_none_iff] at h ⊢
        rw [r.length]; exact h
      rw [e]
      exact pick_rvs r ix
    | some y =>
      obtain ⟨v, hv, rv⟩ := RVs.get r h
      rw [hv]
      exact .cons rv (pick_rvs r ix)
structure KwB (fd : FuncData) (ps ks : List Str) (n : Nat) (ix : List Nat) : Prop where
  to : ∀ (s : Shared) (us ws : List Value), us.length = n → ws.length = ks.length → BindsTo s fd ⟨us, ks.zip ws⟩ (ps.zip (pickL ix (us ++ ws)))
  len : ∀ us ws : List Value, us.length = n → ws.length = ks.length → (pickL ix (us ++ ws)).length = ps.length
section
variable {K : PySem.W.Frag} {x qual : Str} {st : Stmt} {f : Addr} {fd : FuncData} {ps ks : List Str} {n : Nat} {ix : List Nat}
theorem Fun.kwb (F : Fun K x qual st f fd) (h : ∀ (kV doc pm : Value) (an : Option Addr) (cdv ct : Value) (us ws : List Value), us.length = n → ws.length = ks.length → bindArgs (PySem.W.fnOf x qual (defArgs st) (defBody st) (defScope st) .none kV doc pm an cdv ct) ⟨us, ks.zip ws⟩ = pure (ps.zip (pickL ix (us ++ ws))))
    (hl : ∀ us ws : List Value, us.length = n → ws.length = ks.length → (pickL ix (us ++ ws)).length = ps.length) : KwB fd ps ks n ix := by
  obtain ⟨oc, od, kV, doc, pm, an, cdv, ct, osl, rfl, _, _⟩ := F.ex
  exact ⟨fun s us ws h1 h2 => .of_eq (h _ _ _ _ _ _ us ws h1 h2), hl⟩
theorem SFun.kwb {P : Program} {cc D : Addr} {cdv : Value} (F : SFun P K x qual st f fd cdv cc D) (h : ∀ (kV doc pm : Value) (an : Option Addr) (ct : Value) (us ws : List Value), us.length = n → ws.length = ks.length → bindArgs (PySem.W.ksFn x qual (defArgs st) (defBody st) (defScope st) .none kV doc pm an cdv ct cc) ⟨us, ks.zip ws⟩ = pure (ps.zip (pickL ix (us ++ ws))))
    (hl : ∀ us ws : List Value, us.length = n → ws.length = ks.length → (pickL ix (us ++ ws)).length = ps.length) : KwB fd ps ks n ix := by
  obtain ⟨oc, od, kV, doc, pm, an, ct, osl, rfl, _, _⟩ := F.ex
  exact ⟨fun s us ws h1 h2 => .of_eq (h _ _ _ _ _ us ws h1 h2), hl⟩
end
def SK (X : Cx) (kws : List Keyword) : TA := fun σ H Q => ∀ (pos : Pos) (pins : List (Addr × Obj)) (s : Shared), Inv X pins σ H s → wpAny (model X.prog X.w) X.A (evalAll ((backToKw pos (keywordEach kws X.env)).map (·.2))) (AP X pins σ Q) X.xe s
structure DK (X : Cx) (W : WX) (kws : List Keyword) (t : XA) : Prop where
  run : ∀ {G : Hp} {r : Ro} {m : Mu} {σ : L2.St} {H : Hp} {F : List Y → Mu → Prop} {P : XP} {Q : List V → Hp → Prop}, Rs X.K G σ r → Rh X.K G m H → t r m F P → CvA X.K G F Q → CvX X.K G P (WEx W σ) → SK X kws σ H Q
section
variable {X : Cx} {W : WX} {e o : Expr} {es : List Expr} {kws : List Keyword} {te ta : XE} {t tk : XA} {nm : Option Str} {kpos p pos apos : Pos} {σ : L2.St} {H : Hp}
theorem sk_pk : PK X kws (SK X kws) := ⟨fun pos pins s _ _ _ I h => h pos pins s I⟩
theorem sk_of {u : TA} {Q : List V → Hp → Prop} (h : PK X kws u) (q : u σ H Q) : SK X kws σ H Q := fun pos pins s I => h.run pos pins s σ H Q I q
theorem dk_nil : DK X W [] xNil := ⟨fun {G r m σ H F P Q} rs rh hx cv _ => sk_of pk_nil (cv [] [] G m H (Ex.refl G) rh .nil hx)⟩
theorem dk_cons (ha : DE X W e te) (hr : DK X W kws t) : DK X W (⟨nm, e, kpos⟩ :: kws) (xCons te t) := ⟨fun {G r m σ H F P Q} rs rh hx cv cx => sk_of (pk_cons se_pe sk_pk) (ha.run rs rh hx (fun v y G1 m1 H1 e1 rh1 rv1 h1 =>
    hr.run (rs.mono e1) rh1 h1 (fun vs ys G2 m2 H2 e2 rh2 rv2 h2 => cv (v :: vs) (y :: ys) G2 m2 H2 (e1.trans e2) rh2 (.cons (rv1.mono e2) rv2) h2) (cx.mono e1)) cx)⟩
variable {k j n : Nat} {f C : Addr} {fd : FuncData} {ps ks : List Str} {d : DSp} {ix : List Nat} {x mn : Str}
theorem run_dk {pins : List (Addr × Obj)} {s : Shared} {Q : VK} {us ws : List Value} {vs zs : List V} (F : FnD X.prog X.w X.K X.mg X.base k f fd ps d) (hr : Room k X.A) (hg : X.A.guards = some []) (hb : KwB fd ps ks n ix)
    (tk : Takes X W) (I : Inv X pins σ H s) (r : Vals vs us) (rz : Vals zs ws) (l1 : us.length = n) (l2 : ws.length = ks.length) (h : cz X.K d (pickL ix (vs ++ zs)) H Q (WEx W σ)) : wpAny (model X.prog X.w) X.A (call (.ref f) us (ks.zip ws)) (EP X pins σ Q) X.xe s := by
  have rr := pick_rel (r.append rz) ix
  refine wpAny_call (codeAny_mono (F.run X.A X.stack s H ⟨us, ks.zip ws⟩ (pickL ix (us ++ ws)) (pickL ix (vs ++ zs)) Q (WEx W σ) hg hr I.env0 (hb.to s us ws l1 l2) rr h) fun z s' hq => ?_)
  match z, hq with
  | .error e, hq => exact passAt tk σ pins H s e s' I hq
  | .ok (.ret u), hq => exact I.after hq
  | .ok .next, hq => exact False.elim hq
  | .ok .brk, hq => exact False.elim hq
  | .ok .cont, hq => exact False.elim hq
/-- o.m(.., k = v, ..) -/
abbrev xMethK (C : Addr) (mn : Str) (d : DSp) (n : Nat) (ks : List Str) (ix : List Nat) (ta : XE) (t tk : XA) : XE := fun r m F P => ta r m (fun y m1 => ∃ a dx gs, y = .l a ∧ m1 a = some (.ins C dx gs) ∧ gs.lookup mn = none ∧
  t r m1 (fun ys m2 => tk r m2 (fun zs m3 => (Y.l a :: ys).length = n ∧ zs.length = ks.length ∧ d (pickL ix ((.l a :: ys) ++ zs)) m3 F P) P) P) P
theorem de_methK {pl : Sem Bool} (he : DE X W o ta) (M : MF X.prog X.w X.K X.mg X.base C mn k f fd ps d) (hr : Room j X.A) (hgd : X.A.guards = some []) (tk' : Takes X W) (hb : KwB fd ps ks n ix) (ha : DA X W es t) (hkw : DK X W kws tk) (hk : k ≤ j := by decide)
    (hcw : ∀ (Q : Value → Shared → Prop) (E : Value → Shared → Prop) (a : Addr) (s : Shared), X.K.In s.heap → wpAny (model X.prog X.w) X.A (spliced (backTo pos (starEach es X.env))) (fun us s1 => wpAny (model X.prog X.w) X.A (evalAll ((backToKw pos (keywordEach kws X.env)).map (·.2)))
      (fun ws s2 => X.K.In s2.heap ∧ wpAny (model X.prog X.w) X.A (call (.ref f) ([.ref a] ++ us) (ks.zip ws)) Q E s2) E s1) E s → wpAny (model X.prog X.w) X.A (callWith pos (.ref f) [.ref a] (backTo pos (starEach es X.env)) (backToKw pos (keywordEach kws X.env))) Q E s)
    (ht : eval (.Call (.Attribute o mn apos) es kws pos) X.env = (eval o X.env >>= fun ov => standAt apos.atName >>= fun _ => holding [ov] (getMethod ov mn pl) >>= fun z =>
      callWith pos z.1 z.2 (backTo pos (starEach es X.env)) (backToKw pos (keywordEach kws X.env))) := by rfl) :
    DE X W (.Call (.Attribute o mn apos) es kws pos) (xMethK C mn d n ks ix ta t tk) := ⟨fun {G r m σ H F' P Q} rs rh hx cv cx => fun pins s I => by
  have he' := he.run (Q := fun v H1 => ∃ a dx fs, v = V.ref a ∧ H1 a = some (.ins C dx fs) ∧ fs.lookup mn = none ∧ SA X es σ H1 fun vs H2 => SK X kws σ H2 fun zs H3 => (V.ref a :: vs).length = n ∧ zs.length = ks.length ∧ cz X.K d (pickL ix ((.ref a :: vs) ++ zs)) H3 Q (WEx W σ)) rs rh hx (fun v y G1 m1 H1 e1 rh1 rv1 q1 => by
    obtain ⟨a, dx, gs, rfl, hma, hl, q⟩ := q1
    obtain ⟨fs, hH, hf⟩ := rh1.ins hma
    cases rv1.loc
    exact ⟨a, dx, fs, rfl, hH, RF.lookup_none hf hl, ha.run (rs.mono e1) rh1 q (fun vs ys G2 m2 H2 e2 rh2 rv2 q2 => hkw.run ((rs.mono e1).mono e2) rh2 q2 (fun zs us G3 m3 H3 e3 rh3 rv3 ⟨q3, q4, q5⟩ => by
      have rr : RVs X.K G3 ((.ref a :: vs) ++ zs) ((.l a :: ys) ++ us) := (show RVs X.K G3 (.ref a :: vs) (.l a :: ys) from .cons (.l a) (rv2.mono e3)).app rv3
      refine ⟨by rw [← q3, List.length_cons, List.length_cons, rv2.length], by rw [rv3.length, q4], G3, m3, pickL ix ((.l a :: ys) ++ us), F', P, rh3, pick_rvs rr ix, q5, cv.mono ((e1.trans e2).trans e3), cx.mono ((e1.trans e2).trans e3)⟩) (cx.mono (e1.trans e2))) (cx.mono e1)⟩) cx
  refine PySem.W.methodCall_KW (pl := pl) (thn (he' pins s I) fun u s1 ⟨v, H1, I1, rx, a, dx, fs, ex, ea, l, q⟩ => ?_) ht
  subst ex
  obtain rfl : u = Value.ref a := rx
  refine getmeth_ok I1 ea M.cl M.mt l ?_
  refine hcw _ _ _ _ I1.kIn (thn (q pos pins s1 I1) fun us s2 ⟨vs, H2, I2, r2, q2⟩ => thn (q2 pos pins s2 I2) fun ws s3 ⟨zs, H3, I3, r3, l1, l2, q3⟩ => ⟨I3.kIn, ?_⟩)
  have rr : Vals (V.ref a :: vs) (Value.ref a :: us) := .cons rfl r2
  exact run_dk (us := .ref a :: us) (vs := .ref a :: vs) M.fn (hr.mono hk) hgd hb tk' I3 rr r3 (by rw [← rr.length]; exact l1) (by rw [← r3.length]; exact l2) q3⟩
/-- what callWith does with keywords: no positional argument, or some -/
theorem kw_0 (hk : PySem.W.keepIn X.K (.ref f) = true) (hall : (backToKw pos (keywordEach kws X.env)).all (·.1.isSome) = true := by rfl) (hks : (backToKw pos (keywordEach kws X.env)).filterMap (·.1) = ks := by rfl) (hpl : ((backTo pos (starEach [] X.env)).any (·.1) || (backToKw pos (keywordEach kws X.env)).any (·.1.isNone)) = false := by rfl) :
    ∀ (Q : Value → Shared → Prop) (E : Value → Shared → Prop) (a : Addr) (s : Shared), X.K.In s.heap → wpAny (model X.prog X.w) X.A (spliced (backTo pos (starEach [] X.env))) (fun us s1 => wpAny (model X.prog X.w) X.A (evalAll ((backToKw pos (keywordEach kws X.env)).map (·.2)))
      (fun ws s2 => X.K.In s2.heap ∧ wpAny (model X.prog X.w) X.A (call (.ref f) ([.ref a] ++ us) (ks.zip ws)) Q E s2) E s1) E s → wpAny (model X.prog X.w) X.A (callWith pos (.ref f) [.ref a] (backTo pos (starEach [] X.env)) (backToKw pos (keywordEach kws X.env))) Q E s := fun Q E a s hX h => by
  subst hks
  exact fun x y z => (PySem.W.callWith_KW0 (h₀ := s.heap) hX hk hall (h x y z) hpl) x y z
theorem kw_1 (hk : PySem.W.keepIn X.K (.ref f) = true) (hall : (backToKw pos (keywordEach kws X.env)).all (·.1.isSome) = true := by rfl) (hks : (backToKw pos (keywordEach kws X.env)).filterMap (·.1) = ks := by rfl) (hpl : ((backTo pos (starEach (e :: es) X.env)).any (·.1) || (backToKw pos (keywordEach kws X.env)).any (·.1.isNone)) = false := by rfl)
    (he : starEach (e :: es) X.env = (false, eval e X.env) :: starEach es X.env := by rfl) :
    ∀ (Q : Value → Shared → Prop) (E : Value → Shared → Prop) (a : Addr) (s : Shared), X.K.In s.heap → wpAny (model X.prog X.w) X.A (spliced (backTo pos (starEach (e :: es) X.env))) (fun us s1 => wpAny (model X.prog X.w) X.A (evalAll ((backToKw pos (keywordEach kws X.env)).map (·.2)))
      (fun ws s2 => X.K.In s2.heap ∧ wpAny (model X.prog X.w) X.A (call (.ref f) ([.ref a] ++ us) (ks.zip ws)) Q E s2) E s1) E s → wpAny (model X.prog X.w) X.A (callWith pos (.ref f) [.ref a] (backTo pos (starEach (e :: es) X.env)) (backToKw pos (keywordEach kws X.env))) Q E s := fun Q E a s hX h => by
  subst hks
  exact PySem.W.callWith_KW (h₀ := s.heap) hX hk hall h hpl he
/-- C(k = v, ..) -/
abbrev xMakeK (C : Addr) (d : DSp) (ks : List Str) (ix : List Nat) (tk : XA) : XE := fun r m F P => tk r m (fun zs m1 => zs.length = ks.length ∧ ∀ a dx, m1 a = none → d (pickL ix ([.l a] ++ zs)) (mu m1 a (.ins C dx [])) (fun y m2 => y = .d .none ∧ F (.l a) m2) P) P
theorem de_makeK (M : NF X.prog X.w X.K X.mg X.base x C k f fd ps d) (hr : Room j X.A) (hgd : X.A.guards = some []) (tk' : Takes X W) (hb : KwB fd ps ks 1 ix) (hg : Gl X x) (hkw : DK X W kws tk) (hk : k + 1 ≤ j := by decide) (hdb : (x == ("__debug__" : Str)) = false := by decide)
    (hall : (backToKw pos (keywordEach kws X.env)).all (·.1.isSome) = true := by rfl) (hks : (backToKw pos (keywordEach kws X.env)).filterMap (·.1) = ks := by rfl) (hpl : ((backTo pos (starEach [] X.env)).any (·.1) || (backToKw pos (keywordEach kws X.env)).any (·.1.isNone)) = false := by rfl) :
    DE X W (.Call (.Name x p) [] kws pos) (xMakeK C d ks ix tk) := ⟨fun {G r m σ H F' P Q} rs rh hx cv cx => fun pins s I => by
  subst hks
  refine wpAny_Call_Name_kw (ld_glob I hg M.gm ?_ hdb)
  have ha' := hkw.run (Q := fun vs H1 => vs.length = ((backToKw pos (keywordEach kws X.env)).filterMap (·.1)).length ∧ ∀ a dx, H1 a = none → H1 dx = none → dx ≠ a → cz X.K d (pickL ix ([.ref a] ++ vs)) (upd (upd H1 dx (.own a)) a (.ins C dx [])) (fun v H2 => v = .non ∧ Q (.ref a) H2) (WEx W σ)) rs rh hx (fun vs ys G1 m1 H1 e1 rh1 rv1 ⟨q0, q1⟩ => ⟨by rw [rv1.length, q0], fun a dx na ndx ne => by
    have f := rh1.free na
    have r1 : Rh X.K G1 m1 (upd H1 dx (.own a)) := ⟨fun b u q => by rw [upd_ne (ne_of_none (rh1.sub b u q) ndx)]; exact rh1.sub b u q, rh1.off, fun b u q => by
      obtain ⟨z, z1, z2⟩ := rh1.mem b u q
      exact ⟨z, by rw [upd_ne (ne_of_none z1 ndx)]; exact z1, z2⟩, rh1.tb.keep (Ex.refl _) (fun _ _ z => z) (fun _ _ z => z) (fun b o e _ => by rw [upd_ne (ne_of_none e ndx)]; exact e), rh1.nt⟩
    have r2 : Rh X.K G1 (mu m1 a (.ins C dx [])) (upd (upd H1 dx (.own a)) a (.ins C dx [])) := r1.new (by rw [upd_ne (Ne.symm ne)]; exact na) (.ins .nil)
    have rr : RVs X.K G1 ([.ref a] ++ vs) ([.l a] ++ ys) := (show RVs X.K G1 [.ref a] [.l a] from .cons (.l a) .nil).app rv1
    exact ⟨G1, _, pickL ix ([.l a] ++ ys), fun y m2 => y = .d .none ∧ F' (.l a) m2, P, r2, pick_rvs rr ix, q1 a dx f.2,
      fun v y G2 m2 H2 e2 rh2 rv2 ⟨q2, q3⟩ => by subst q2; exact ⟨rv2.non, cv _ _ G2 m2 H2 (e1.trans e2) rh2 (.l a) q3⟩, cx.mono e1⟩⟩) cx
  refine PySem.W.callWith_KW0 (h₀ := X.base) I.ok.mod.kin M.mk'.kp hall (thn (ha' pos pins s I) fun ws s1 ⟨zs, H1, I1, r1, l1, q⟩ => ⟨I1.kIn, ?_⟩) hpl
  have hq := q (s1.heap.objs.size + 1) s1.heap.objs.size (I1.hok.fresh (Nat.le_succ _)) (I1.hok.fresh (Nat.le_refl _)) (Nat.ne_of_lt (Nat.lt_succ_self _))
  have J := Inv.made (C := C) I1
  have rr : Vals ([V.ref (s1.heap.objs.size + 1)] ++ zs) ([Value.ref (s1.heap.objs.size + 1)] ++ ws) := .cons rfl r1
  have hr' : Room (k + 1) X.A := hr.mono hk
  refine wpAny_call (make_map (f := f) I1.kIn M.mk'.makes M.mk'.init (beq_iff_eq.mp M.mk'.fn) (codeAny_mono (M.fn.run _ X.stack _ _ ⟨[Value.ref (s1.heap.objs.size + 1)], ((backToKw pos (keywordEach kws X.env)).filterMap (·.1)).zip ws⟩ (pickL ix ([Value.ref (s1.heap.objs.size + 1)] ++ ws)) _ _ (WEx W σ)
    (make_guards hgd) (hr'.make C [] _) (J.env0.make C [] _) (hb.to _ [Value.ref (s1.heap.objs.size + 1)] ws rfl (by rw [← r1.length]; exact l1)) (pick_rel rr ix) hq) fun z s' hz => ?_))
  match z, hz with
  | .error e, hz => exact passAt tk' σ pins _ _ e s' J hz
  | .ok (.ret u), hz =>
    obtain ⟨v, H', I3, rv, ev, q3⟩ := J.after hz
    subst ev
    exact ⟨rv, ⟨V.ref (s1.heap.objs.size + 1), H', I3, rfl, q3⟩⟩
  | .ok .next, hz => exact False.elim hz
  | .ok .brk, hz => exact False.elim hz
  | .ok .cont, hz => exact False.elim hz⟩
end
end Dl
/-! D40: repr of an instance by its own __repr__. -/
namespace Dl
open PySem PySem.Spec PyProof.Rows L2 Evl
section
variable {X : Cx} {k j : Nat} {f C : Addr} {fd : FuncData} {ps : List Str} {d : DSp}
abbrev xReprO (C : Addr) (d : DSp) : XRC := fun ys m F => ∃ a dx gs, ys = [.l a] ∧ m a = some (.ins C dx gs) ∧ d [.l a] m (fun y m' => ∃ x, y = .d (.str x) ∧ F y m') (fun _ _ _ => False)
theorem cd_reprO (M : MF X.prog X.w X.K X.mg X.base C "__repr__" k f fd ps d) (hr : Room j X.A) (hgd : X.A.guards = some []) (hk : k + 1 ≤ j := by decide) : CallD X (.builtin "repr") (xReprO C d) := by
  refine ⟨fun xs H Q => ∃ a dx fs, xs = [.ref a] ∧ H a = some (.ins C dx fs) ∧ cz X.K d [.ref a] H (fun v H' => ∃ x, v = .str x ∧ Q (.str x) H') (fun _ _ _ => False), ?_, fun {G m H vs ys F Q} rh rv hx cv => ?_⟩
  · intro pins s σ H xs us Q I r ⟨a, dx, fs, ex, ea, q⟩
    subst ex
    obtain ⟨u, rfl, ru⟩ := r.one
    cases ru
    obtain ⟨mA, O, _, _, _, _⟩ := ins_get I.hok ea
    obtain ⟨od, J, _⟩ := O.look
    obtain ⟨m0, hm0, _⟩ := I.loc
    have Fr0 : PyProof.Rows.Fr X.base X.env.locals s.heap m0 := ⟨hm0, I.bk, Nat.le_trans I.ok.bsz I.ok.above⟩
    have hr1 : Room (k + 1) X.A := hr.mono hk
    have hl : ([Value.ref a] ++ []).length = ps.length := by
      obtain ⟨_, _, ys, _, _, _, z2, z3, _⟩ := id q
      rw [← M.fn.len _ _ _ _ z3, ← z2.length]
      rfl
    refine PySem.W.repr_K (by have := hr1.un; show X.A.units + 1 < _; omega) Fr0 I.ok.mod.kin J M.mt.at_ M.mt.fn (wpAny_call ?_)
    refine codeAny_mono (M.fn.run X.A.in1 X.stack s H ⟨[.ref a], []⟩ [.ref a] [.ref a] _ (fun _ _ _ => False) hgd hr1.in1 I.env0.in1 (M.bn _ [.ref a] I.kIn hl) (.cons rfl .nil) q) fun z s' hz => ?_
    match z, hz with
    | .error er, hz => exact passAt (W := fun _ _ _ _ => False) takes_none5 σ pins H s er s' I hz
    | .ok (.ret u), hz =>
      obtain ⟨v, H', I3, rv, x, ev, q3⟩ := I.after hz
      subst ev
      obtain ⟨t, rfl⟩ := rv
      exact ⟨.str x, H', I3, ⟨t, rfl⟩, q3⟩
    | .ok .next, hz => exact False.elim hz
    | .ok .brk, hz => exact False.elim hz
    | .ok .cont, hz => exact False.elim hz
  · obtain ⟨a, dx, gs, rfl, hm, q⟩ := hx
    obtain ⟨v, rfl, r1⟩ := rvs1 rv
    cases r1.loc
    obtain ⟨fs, hH, hf⟩ := rh.ins hm
    exact ⟨a, dx, fs, rfl, hH, G, m, [.l a], _, _, rh, .cons (.l a) .nil, q, fun v y G1 m1 H1 e1 rh1 rv1 ⟨x, e, f⟩ => by subst e; exact ⟨x, rv1.str, cv _ _ G1 m1 H1 e1 rh1 (.d (.str x)) f⟩, fun _ _ _ _ _ _ _ _ _ z => z⟩
end
end Dl
namespace Dl
open PySem PySem.Spec PyProof.Rows L2 Evl
abbrev top (i : Nat) : Stmt := PySem.Challenge.pw_eventsim_k19_lines_by_hand_and_names.main.body.getD i (.Pass ⟨0, 0, 0, 0⟩)

/-! ### a line as a list of requests -/
structure Rq where
  rank : Int
  proc : Int
  held : Bool
abbrev ri (i : Int) : PyData := .int i
abbrev rqD (r : Rq) : PyData := .tuple [ri r.rank, ri r.proc, .bool r.held]
abbrev pairD (r : Rq) : PyData := .tuple [ri r.rank, ri r.proc]
abbrev rqY (r : Rq) : Y := .d (rqD r)
def heldL (rs : List Rq) : List PyData := (rs.filter (·.held)).map pairD
def sv0 (rs : List Rq) : List Nat := rs.zipIdx.filterMap fun p => if p.1.held then none else some p.2
/-- is the data a whole number in these bounds -/
def isB (d : PyData) (lo hi : Int) : Bool := match d with
  | .int x => decide (lo ≤ x) && decide (x ≤ hi)
  | _ => false
/-- the last request of this process that holds a unit -/
def ownL (rs : List Rq) (i : Int) : List Nat := rs.zipIdx.filterMap fun p => if p.1.held && decide (p.1.proc = i) then some p.2 else none
def lastH (rs : List Rq) (i : Int) : Option Nat := (ownL rs i).getLast?
def heldN (rs : List Rq) : Nat := (rs.filter (·.held)).length
def waitL (sv : List Rq → List Nat) (rs : List Rq) : List PyData := (sv rs).filterMap fun i => rs[i]?.map pairD
/-- a request more; a request less: what is left, and what is answered -/
def askF (u : Int) (rs : List Rq) (i k : Int) : List Rq := rs ++ [⟨k, i, decide (0 < u - (heldN rs : Int))⟩]
def endF (sv : List Rq → List Nat) (rs : List Rq) : List Rq × PyData := match sv rs with
  | [] => (rs, .none)
  | k :: _ => match rs[k]? with
    | none => (rs, .none)
    | some q => (rs.set k { q with held := true }, ri q.proc)
def relF (sv : List Rq → List Nat) (rs : List Rq) (i : Int) : Option (List Rq × PyData) := (lastH rs i).map fun j => endF sv (rs.eraseIdx j)
/-! ### facts of the text -/
structure Txt (K : PySem.W.Frag) (mg : Str → Option Value) : Prop where
  b_isinstance : mg "isinstance" = none
  b_int : mg "int" = none
  b_bool : mg "bool" = none
  b_len : mg "len" = none
  b_tuple : mg "tuple" = none
  b_enumerate : mg "enumerate" = none
  b_max : mg "max" = none
  b_repr : mg "repr" = none
  b_sorted : mg "sorted" = none
  b_range : mg "range" = none
  b_super : mg "super" = none
  c_LAST_PROCESS : ∃ t, mg "LAST_PROCESS" = some (.int 5 t)
  c_LAST_RANK : ∃ t, mg "LAST_RANK" = some (.int 9 t)
structure Lin (K : PySem.W.Frag) (C : Addr) : Prop where
  cl : Cls K C
  nU : NoAttr K C "_units"
  nR : NoAttr K C "_requests"
  mU : ∃ t, Con K C "MOST_UNITS" (.int 3) (.int 3 t)
abbrev flds (u : Int) (p : Addr) : List (Str × Y) := [("_units", .d (.int u)), ("_requests", .l p)]
/-- a triple taken apart -/
theorem tup3 {x y z : PyData} {M : Mu} {r : Ro} {g : XGs} {F : Ro → Mu → Prop} (h : g [.d x, .d y, .d z] r M F) : xgTup 3 g (.d (.tuple [x, y, z])) r M F := by
  refine ⟨[.d x, .d y, .d z], rfl, ?_, ?_, ?_, rfl, h⟩
  all_goals intro _ e; cases e
theorem tup2 {y z : Y} {M : Mu} {r : Ro} {x : Y} {g : XGs} {F : Ro → Mu → Prop} (hx : (∃ a b, y = .d a ∧ z = .d b ∧ x = .d (.tuple [a, b])) ∨ ∃ p, x = .l p ∧ M p = some (.tup [y, z])) (h : g [y, z] r M F) : xgTup 2 g x r M F := by
  rcases hx with ⟨a, b, rfl, rfl, rfl⟩ | ⟨p, rfl, e⟩
  · refine ⟨[.d a, .d b], rfl, ?_, ?_, ?_, rfl, h⟩
    all_goals intro _ e; cases e
  · refine ⟨[y, z], .inr e, ?_, ?_, ?_, rfl, h⟩
    · intro _ e; cases e
    · intro q e'; cases e'; exact e
    · intro _ e; cases e
theorem eq_int {o i : Int} {m : Mu} {F : Y → Mu → Prop} (h : F (.d (.bool (decide (o = i)))) m) : xEq (.d (.int o)) (.d (.int i)) m F := h
theorem at_last {α : Type} {xs : List α} {x : α} : atI (xs ++ [x]) (-1) = some x := by
  unfold atI ixN
  rw [if_neg (by decide), List.length_append, List.length_singleton, if_pos (by omega), Option.bind_some]
  rw [show (-1 + ((xs.length + 1 : Nat) : Int)).toNat = xs.length by omega, List.getElem?_append_right (Nat.le_refl _), Nat.sub_self]
  rfl
theorem at_nat {α : Type} {xs : List α} {n : Nat} {x : α} (h : xs[n]? = some x) : atI xs (n : Int) = some x := by
  obtain ⟨hl, -⟩ := List.getElem?_eq_some_iff.mp h
  unfold atI ixN
  rw [if_pos (Int.natCast_nonneg n), if_pos (by omega), Option.bind_some, Int.toNat_natCast, h]
theorem at_zero {α : Type} {x : α} {xs : List α} : atI (x :: xs) 0 = some x := at_nat (n := 0) rfl
theorem ix_nat {k n : Nat} (h : n < k) : ixN k (n : Int) = some n := by
  unfold ixN
  rw [if_pos (Int.natCast_nonneg n), if_pos (by omega), Int.toNat_natCast]
theorem sq_nat {k n : Nat} (h : n < k) : seqIndex? (n : Int) k = some n := by
  unfold seqIndex?
  simp only []
  rw [if_neg (by omega : ¬ (n : Int) < 0), if_pos (by simp; omega), Int.toNat_natCast]
theorem str_app (a b : Str) : (a ++ b).length = a.length + b.length := Array.size_append
theorem fmt_i {i : Int} (h : i.natAbs.log2 < 1920) : fmtY (.d (.int i)) = some (Str.ofString (toString i)) := if_pos h
theorem fmt_s {x : Str} (h : x.length ≤ 2000) : fmtY (.d (.str x)) = some x := if_pos h
theorem log_small {i : Int} (h : i.natAbs < 2 ^ 200) : i.natAbs.log2 < 1920 := by
  by_cases z : i.natAbs = 0
  · rw [z]; decide
  · exact Nat.lt_trans ((Nat.log2_lt z).mpr h) (by decide)
theorem iteD {p : Prop} [Decidable p] {A B : Prop} (h1 : p → A) (h2 : ¬p → B) : if decide p = true then A else B := by
  by_cases h : p
  · rw [if_pos (by simpa using h)]; exact h1 h
  · rw [if_neg (by simpa using h)]; exact h2 h
theorem iteE {k : Bool} {A B : Prop} (h : k = false) (b : B) : if k = true then A else B := by rw [if_neg (by simp [h])]; exact b
theorem iteI {k : Bool} {A B : Prop} (h : k = true) (a : A) : if k = true then A else B := by rw [if_pos h]; exact a
theorem map_erase {α β : Type} (f : α → β) : ∀ (xs : List α) (n : Nat), (xs.map f).eraseIdx n = (xs.eraseIdx n).map f
  | [], _ => rfl
  | _ :: _, 0 => rfl
  | x :: xs, n + 1 => congrArg (f x :: ·) (map_erase f xs n)
theorem fm_congr {α β : Type} {f g : α → Option β} : ∀ {xs : List α}, (∀ x ∈ xs, f x = g x) → xs.filterMap f = xs.filterMap g
  | [], _ => rfl
  | x :: xs, h => by rw [List.filterMap_cons, List.filterMap_cons, h x (by simp), fm_congr fun y hy => h y (by simp [hy])]
/-- data of few levels -/
def flat1 (d : PyData) : Prop := d.canLay0 = true ∧ d.depth ≤ 3
theorem flat_list {n : Nat} {ds : List PyData} (h : ∀ d ∈ ds, d.canLay0 = true ∧ d.depth ≤ n) : (PyData.list ds).canLay0 = true ∧ (PyData.list ds).depth ≤ n + 1 := by
  have a : ∀ ds : List PyData, (∀ d ∈ ds, d.canLay0 = true ∧ d.depth ≤ n) → PyData.canLayAll0 ds = true ∧ PyData.depthAll ds ≤ n := by
    intro ds
    induction ds with
    | nil => intro _; simp [PyData.canLayAll0, PyData.depthAll]
    | cons d ds ih =>
      intro h
      obtain ⟨h1, h2⟩ := ih fun x hx => h x (by simp [hx])
      obtain ⟨h3, h4⟩ := h d (by simp)
      simp [PyData.canLayAll0, PyData.depthAll, h1, h3]
      omega
  obtain ⟨h1, h2⟩ := a ds h
  simp [PyData.canLay0, PyData.depth, h1]
  omega
theorem flat_shaped {d : PyData} (h : d.canLay0 = true ∧ d.depth ≤ 64) : SeqAt.shaped d = true := by unfold SeqAt.shaped; simp [h.1, h.2]
theorem flat_int {i : Int} : (ri i).canLay0 = true ∧ (ri i).depth ≤ 1 := by simp [PyData.canLay0, PyData.depth]
theorem flat_bool {b : Bool} : (PyData.bool b).canLay0 = true ∧ (PyData.bool b).depth ≤ 1 := by simp [PyData.canLay0, PyData.depth]
theorem flat_up {d : PyData} {n k : Nat} (h : d.canLay0 = true ∧ d.depth ≤ n) (l : n ≤ k) : d.canLay0 = true ∧ d.depth ≤ k := ⟨h.1, Nat.le_trans h.2 l⟩
theorem eqv_list (ds : List PyData) : PyData.eqv (.list ds) (.list []) = ds.isEmpty := by
  cases ds with
  | nil => exact eqv_nil
  | cons d ds => exact eqv_cons
theorem eq_nilD {ds : List PyData} {n : Nat} {m : Mu} {F : Y → Mu → Prop} (hd : ∀ d ∈ ds, d.canLay0 = true ∧ d.depth ≤ n) (hn : n ≤ 60) (h : F (.d (.bool ds.isEmpty)) m) : xEq (.d (.list ds)) (.d (.list [])) m F :=
  ⟨flat_shaped (flat_up (flat_list hd) (by omega)), flat_shaped (flat_up (flat_list (n := 0) fun _ h => by simp at h) (by omega)), by rw [eqv_list]; exact h⟩
theorem tru_b {m : Mu} (b : Bool) : TruY m (.d (.bool b)) b := rfl
theorem len1 {α : Type} (x : α) : [x].length ≤ 10000 := Nat.le_of_ble_eq_true rfl
theorem len2 {α : Type} (x y : α) : [x, y].length ≤ 10000 := Nat.le_of_ble_eq_true rfl
theorem len3 {α : Type} (x y z : α) : [x, y, z].length ≤ 10000 := Nat.le_of_ble_eq_true rfl
theorem len4 {α : Type} (x y z t : α) : [x, y, z, t].length ≤ 10000 := Nat.le_of_ble_eq_true rfl
theorem flat_ints (vs : List Int) : (vs.map ri).all flatD = true := by
  induction vs with
  | nil => rfl
  | cons v vs ih => rw [List.map_cons, List.all_cons, ih]; rfl
/-- a line stands at a, its list at p -/
structure At (C : Addr) (m : Mu) (a : Addr) (u : Int) (p : Addr) (rs : List Rq) : Prop where
  ob : ∃ dx, m a = some (.ins C dx (flds u p))
  ls : m p = some (.lst (rs.map rqY))
theorem At.le {C a p : Addr} {m m' : Mu} {u : Int} {rs : List Rq} (h : At C m a u p rs) (l : Mle m m') : At C m' a u p rs := ⟨h.ob.imp fun _ q => l _ _ q, l _ _ h.ls⟩
theorem At.ne {C a p : Addr} {m : Mu} {u : Int} {rs : List Rq} (h : At C m a u p rs) : a ≠ p := fun e => by
  obtain ⟨dx, h1⟩ := h.ob
  have h2 := h.ls
  subst e
  rw [h1] at h2
  cases h2
theorem look_here {α : Type} {x y : Str} {v : α} {r : List (Str × α)} (h : (x == y) = true) : ((y, v) :: r).lookup x = some v := by rw [List.lookup_cons, h]
theorem look_past {α : Type} {x y : Str} {v : α} {r : List (Str × α)} (h : (x == y) = false) : ((y, v) :: r).lookup x = r.lookup x := by rw [List.lookup_cons, h]
theorem fl_u (u : Int) (p : Addr) : (flds u p).lookup ("_units" : Str) = some (.d (.int u)) := look_here (by decide +kernel)
theorem fl_r (u : Int) (p : Addr) : (flds u p).lookup ("_requests" : Str) = some (.l p) := (look_past (by decide +kernel)).trans (look_here (by decide +kernel))
theorem fl_no (u : Int) (p : Addr) {x : Str} (h1 : (x == "_units") = false) (h2 : (x == "_requests") = false) : (flds u p).lookup x = none := (look_past h1).trans (look_past h2)
/-- what stands outside S stays -/
def Fr (S : Addr → Prop) (m m' : Mu) : Prop := ∀ x o, ¬ S x → m x = some o → m' x = some o
theorem Fr.of {S : Addr → Prop} {m m' : Mu} (h : Mle m m') : Fr S m m' := fun x o _ e => h x o e
theorem Fr.then {S : Addr → Prop} {m m' m2 : Mu} (h : Fr S m m') (h2 : Mle m' m2) : Fr S m m2 := fun x o n e => h2 x o (h x o n e)
abbrev rowY (r : Rq) : List Y := [.d (ri r.rank), .d (ri r.proc), .d (.bool r.held)]
/-- the law's own list of requests -/
structure LAt (m : Mu) (q : Addr) (bs : List Addr) (rs : List Rq) : Prop where
  ls : m q = some (.lst (bs.map Y.l))
  rows : Paired (fun b r => m b = some (.lst (rowY r))) bs rs
  nd : (q :: bs).Nodup
theorem rows_get {m : Mu} : ∀ {bs : List Addr} {rs : List Rq}, Paired (fun b r => m b = some (.lst (rowY r))) bs rs → ∀ {i : Nat} {b : Addr}, bs[i]? = some b → ∃ r, rs[i]? = some r ∧ m b = some (.lst (rowY r))
  | _, _, .nil, i, b, e => by simp at e
  | _, _, .cons h t, 0, b, e => by simp at e; subst e; exact ⟨_, rfl, h⟩
  | _, _, .cons h t, i + 1, b, e => by
    obtain ⟨r, h1, h2⟩ := rows_get t (i := i) (b := b) (by simpa using e)
    exact ⟨r, by simpa using h1, h2⟩
theorem rows_get' {m : Mu} : ∀ {bs : List Addr} {rs : List Rq}, Paired (fun b r => m b = some (.lst (rowY r))) bs rs → ∀ {i : Nat} {r : Rq}, rs[i]? = some r → ∃ b, bs[i]? = some b ∧ m b = some (.lst (rowY r))
  | _, _, .nil, i, b, e => by simp at e
  | _, _, .cons h t, 0, b, e => by simp at e; subst e; exact ⟨_, rfl, h⟩
  | _, _, .cons h t, i + 1, b, e => by
    obtain ⟨r, h1, h2⟩ := rows_get' t (i := i) (r := b) (by simpa using e)
    exact ⟨r, by simpa using h1, h2⟩
theorem rows_mem {m : Mu} {bs : List Addr} {rs : List Rq} (h : Paired (fun b r => m b = some (.lst (rowY r))) bs rs) {b : Addr} (hb : b ∈ bs) : ∃ r, r ∈ rs ∧ m b = some (.lst (rowY r)) := by
  obtain ⟨i, hi⟩ := List.getElem?_of_mem hb
  obtain ⟨r, h1, h2⟩ := rows_get h hi
  exact ⟨r, List.mem_of_getElem? h1, h2⟩
theorem rows_len {m : Mu} : ∀ {bs : List Addr} {rs : List Rq}, Paired (fun b r => m b = some (.lst (rowY r))) bs rs → bs.length = rs.length
  | _, _, .nil => rfl
  | _, _, .cons _ t => congrArg Nat.succ (rows_len t)
theorem rows_le {m m' : Mu} : ∀ {bs : List Addr} {rs : List Rq}, (∀ b ∈ bs, ∀ o, m b = some o → m' b = some o) → Paired (fun b r => m b = some (.lst (rowY r))) bs rs → Paired (fun b r => m' b = some (.lst (rowY r))) bs rs
  | _, _, _, .nil => .nil
  | _, _, l, .cons h t => .cons (l _ (by simp) _ h) (rows_le (fun b hb => l b (by simp [hb])) t)
theorem LAt.le {m m' : Mu} {q : Addr} {bs : List Addr} {rs : List Rq} (h : LAt m q bs rs) (l : Mle m m') : LAt m' q bs rs := ⟨l _ _ h.ls, rows_le (fun b _ o e => l b o e) h.rows, h.nd⟩
theorem At.fr {C a p : Addr} {m m' : Mu} {u : Int} {rs : List Rq} {S : Addr → Prop} (h : At C m a u p rs) (l : Fr S m m') (ha : ¬ S a) (hp : ¬ S p) : At C m' a u p rs := ⟨h.ob.imp fun _ q => l _ _ ha q, l _ _ hp h.ls⟩
/-- places in the list -/
structure Sv (sv : List Rq → List Nat) : Prop where
  lt : ∀ rs, ∀ i ∈ sv rs, i < rs.length
  len : ∀ rs, (sv rs).length ≤ rs.length
/-- the order of the waiting requests, by ranks times k -/
def wPairs (k : Int) (rs : List Rq) : List (Int × Int) := rs.zipIdx.filterMap fun p => if p.1.held then none else some (p.1.rank * k, (p.2 : Int))
def svR (k : Int) (rs : List Rq) : List Nat := (srt (wPairs k rs)).map fun p => p.2.toNat
theorem wPairs_lt {k : Int} {rs : List Rq} {p : Int × Int} (h : p ∈ wPairs k rs) : ∃ n : Nat, p.2 = (n : Int) ∧ n < rs.length := by
  obtain ⟨⟨r, n⟩, h1, h2⟩ := List.mem_filterMap.mp h
  split at h2
  · cases h2
  · cases h2
    refine ⟨n, rfl, ?_⟩
    have := (List.mem_zipIdx h1).2.1
    omega
theorem srt_mem {ps : List (Int × Int)} {p : Int × Int} (h : p ∈ srt ps) : p ∈ ps := (List.mergeSort_perm ps lexLe).mem_iff.mp h
theorem srt_len (ps : List (Int × Int)) : (srt ps).length = ps.length := (List.mergeSort_perm ps lexLe).length_eq
theorem wPairs_len (k : Int) (rs : List Rq) : (wPairs k rs).length ≤ rs.length := by
  have := List.length_filterMap_le (fun p : Rq × Nat => if p.1.held then none else some (p.1.rank * k, (p.2 : Int))) rs.zipIdx
  rwa [List.length_zipIdx] at this
theorem sv_svR (k : Int) : Sv (svR k) := ⟨fun rs i hi => by
    obtain ⟨p, hp, rfl⟩ := List.mem_map.mp hi
    obtain ⟨n, e, h⟩ := wPairs_lt (srt_mem hp)
    rw [e, Int.toNat_natCast]; exact h,
  fun rs => by unfold svR; rw [List.length_map, srt_len]; exact wPairs_len k rs⟩
theorem zip_lt {α : Type} : ∀ (xs : List α) (n : Nat), (xs.zipIdx n).Pairwise fun a b => a.2 < b.2
  | [], _ => .nil
  | x :: xs, n => by
    rw [List.zipIdx_cons]
    refine .cons (fun p hp => ?_) (zip_lt xs (n + 1))
    obtain ⟨y, j⟩ := p
    have := (List.mem_zipIdx hp).1
    show n < j
    omega
theorem svR0 (rs : List Rq) : svR 0 rs = sv0 rs := by
  have e : srt (wPairs 0 rs) = wPairs 0 rs := by
    refine srt_uniq ?_ (List.Perm.refl _)
    unfold wPairs
    refine List.pairwise_filterMap.mpr ((zip_lt rs 0).imp fun {a b} h x hx y hy => ?_)
    split at hx
    · cases hx
    · split at hy
      · cases hy
      · cases hx; cases hy
        unfold lexLe
        have : SrtO.lexB (b.1.rank * 0, (b.2 : Int)) (a.1.rank * 0, (a.2 : Int)) = false := SrtO.lexB_no.mpr (by simp; omega)
        rw [this]; rfl
  unfold svR
  rw [e]
  unfold wPairs sv0
  rw [List.map_filterMap]
  congr 1
  funext p
  cases h : p.1.held <;> simp
theorem sv_sv0 : Sv sv0 := by
  have e : svR 0 = sv0 := funext svR0
  rw [← e]; exact sv_svR 0
theorem LAt.ne {m : Mu} {q b : Addr} {bs : List Addr} {rs : List Rq} (h : LAt m q bs rs) (hb : b ∈ bs) : b ≠ q := fun e => by
  subst e; exact (List.nodup_cons.mp h.nd).1 hb
/-- a row more -/
theorem LAt.ask {m m' : Mu} {q b : Addr} {bs : List Addr} {rs : List Rq} {r : Rq} (h : LAt m q bs rs) (hb : m b = none) (l : Mle (mu (mu m b (.lst (rowY r))) q (.lst ((bs ++ [b]).map Y.l))) m') : LAt m' q (bs ++ [b]) (rs ++ [r]) ∧ Fr (fun x => x = q) m m' := by
  have bq : b ≠ q := fun e => by subst e; have := h.ls; rw [hb] at this; cases this
  have nb : ∀ x ∈ bs, x ≠ b := fun x hx e => by
    subst e
    obtain ⟨r, _, h2⟩ := rows_mem h.rows hx
    rw [hb] at h2; cases h2
  have fr : Fr (fun x => x = q) m m' := fun x o hx e => l _ _ (by
    rw [mu_ne hx, mu_ne]; exact e
    intro z; subst z; rw [hb] at e; cases e)
  refine ⟨⟨l _ _ mu_same, ?_, ?_⟩, fr⟩
  · have app : ∀ {bs : List Addr} {rs : List Rq}, Paired (fun b r => m' b = some (.lst (rowY r))) bs rs → Paired (fun b r => m' b = some (.lst (rowY r))) (bs ++ [b]) (rs ++ [r]) := by
      intro bs rs hh
      induction hh with
      | nil => exact .cons (l _ _ (by rw [mu_ne bq]; exact mu_same)) .nil
      | cons h t ih => exact .cons h ih
    exact app (rows_le (fun x hx o e => fr x o (h.ne hx) e) h.rows)
  · have nd := h.nd
    rw [List.nodup_cons] at nd ⊢
    refine ⟨fun z => ?_, ?_⟩
    · rcases List.mem_append.mp z with z | z
      · exact nd.1 z
      · exact bq (List.mem_singleton.mp z).symm
    · rw [List.nodup_append]
      refine ⟨nd.2, by simp, fun x hx y hy e => ?_⟩
      have := List.mem_singleton.mp hy
      subst this
      exact nb x hx e
theorem Paired.erase' {α β : Type} {R : α → β → Prop} : ∀ {xs : List α} {ys : List β} (n : Nat), Paired R xs ys → Paired R (xs.eraseIdx n) (ys.eraseIdx n)
  | _, _, _, .nil => .nil
  | _, _, 0, .cons _ t => t
  | _, _, n + 1, .cons h t => .cons h (Paired.erase' n t)
/-- a row less -/
theorem LAt.erase {m m' : Mu} {q : Addr} {bs : List Addr} {rs : List Rq} {j : Nat} (h : LAt m q bs rs) (l : Mle (mu m q (.lst ((bs.eraseIdx j).map Y.l))) m') : LAt m' q (bs.eraseIdx j) (rs.eraseIdx j) ∧ Fr (fun x => x = q) m m' := by
  have fr : Fr (fun x => x = q) m m' := fun x o hx e => l _ _ (by rw [mu_ne hx]; exact e)
  have sub : (bs.eraseIdx j).Sublist bs := List.eraseIdx_sublist _ _
  refine ⟨⟨l _ _ mu_same, Paired.erase' j (rows_le (fun x hx o e => fr x o (h.ne hx) e) h.rows), ?_⟩, fr⟩
  exact h.nd.sublist (sub.cons₂ q)
/-- a row changed -/
theorem LAt.put {m m' : Mu} {q b : Addr} {bs : List Addr} {rs : List Rq} {j : Nat} {r : Rq} (h : LAt m q bs rs) (hb : bs[j]? = some b) (l : Mle (mu m b (.lst (rowY r))) m') : LAt m' q bs (rs.set j r) ∧ Fr (fun x => x ∈ bs) m m' := by
  have hbm := List.mem_of_getElem? hb
  have fr : Fr (fun x => x = b) m m' := fun x o hx e => l _ _ (by rw [mu_ne hx]; exact e)
  refine ⟨⟨fr _ _ (fun e => h.ne hbm e.symm) h.ls, ?_, h.nd⟩, fun x o hx e => fr x o (fun z => hx (z ▸ hbm)) e⟩
  have go : ∀ {bs : List Addr} {rs : List Rq} {j : Nat}, bs.Nodup → bs[j]? = some b → Paired (fun b r => m b = some (.lst (rowY r))) bs rs → Paired (fun b r => m' b = some (.lst (rowY r))) bs (rs.set j r) := by
    intro bs
    induction bs with
    | nil => intro rs j _ e; simp at e
    | cons x bs ih =>
      intro rs j nd e hh
      cases hh with
      | cons h1 t =>
        rw [List.nodup_cons] at nd
        cases j with
        | zero =>
          simp at e
          subst e
          exact .cons (l _ _ mu_same) (rows_le (fun y hy o e => fr y o (fun z => nd.1 (z ▸ hy)) e) t)
        | succ j =>
          have e' : bs[j]? = some b := by simpa using e
          exact .cons (fr _ _ (fun z => nd.1 (z ▸ List.mem_of_getElem? e')) h1) (ih nd.2 e' t)
  exact go (List.nodup_cons.mp h.nd).2 hb h.rows
/-- the pen's list -/
def PenL (l : List Y) : Prop := ∃ x y z : Int, 0 ≤ x ∧ 0 ≤ y ∧ y < 4294967296 ∧ l = [.d (.int x), .d (.int y), .d (.int z)]
section
variable {P : Program} {w : World} {K : PySem.W.Frag} {mg : Str → Option Value} {base : Heap}


abbrev s_is_between : Stmt := top 8
abbrev N_is_between : List Str := ["thing", "low", "high"]
theorem sc_is_between : FnScope N_is_between ["thing", "low", "high"] (defScope s_is_between) := ⟨rfl, rfl, rfl, by decide +kernel, rfl, by decide +kernel, by decide +kernel⟩
def isI (d : PyData) : Bool := match d with
  | .int _ => true
  | .bool _ => true
  | _ => false
def isBl (d : PyData) : Bool := match d with
  | .bool _ => true
  | _ => false
theorem isi_int (d : PyData) : PySem.W.kitOne K (.type (tyD d)) (.type "int") = some (isI d) := by
  have h1 : kitB "NoneType" "int" = some false := by decide +kernel
  have h2 : kitB "bool" "int" = some true := by decide +kernel
  have h3 : kitB "int" "int" = some true := by decide +kernel
  have h4 : kitB "str" "int" = some false := by decide +kernel
  have h5 : kitB "list" "int" = some false := by decide +kernel
  have h6 : kitB "tuple" "int" = some false := by decide +kernel
  have h7 : kitB "dict" "int" = some false := by decide +kernel
  cases d <;> first | exact kit_ty h1 | exact kit_ty h2 | exact kit_ty h3 | exact kit_ty h4 | exact kit_ty h5 | exact kit_ty h6 | exact kit_ty h7
theorem isi_bool (d : PyData) : PySem.W.kitOne K (.type (tyD d)) (.type "bool") = some (isBl d) := by
  have h1 : kitB "NoneType" "bool" = some false := by decide +kernel
  have h2 : kitB "bool" "bool" = some true := by decide +kernel
  have h3 : kitB "int" "bool" = some false := by decide +kernel
  have h4 : kitB "str" "bool" = some false := by decide +kernel
  have h5 : kitB "list" "bool" = some false := by decide +kernel
  have h6 : kitB "tuple" "bool" = some false := by decide +kernel
  have h7 : kitB "dict" "bool" = some false := by decide +kernel
  cases d <;> first | exact kit_ty h1 | exact kit_ty h2 | exact kit_ty h3 | exact kit_ty h4 | exact kit_ty h5 | exact kit_ty h6 | exact kit_ty h7
def d_is_between : DSp := fun ys m F _ => ∃ d lo hi, ys = [.d d, .d (.int lo), .d (.int hi)] ∧ F (.d (.bool (isB d lo hi))) m
theorem ok_is_between {f : Addr} {fd : FuncData} (F : Fun K "is_between" "is_between" s_is_between f fd) (T : Txt K mg)  : FnD P w K mg base 1 f fd ["thing", "low", "high"] d_is_between := by
  refine Dl.Fun.dok F sc_is_between _ (fun cdv A outer s H E B hp =>
      (dss_cons (ds_if (DW.dt (dw_or (dt_not (dt_tru (de_cb (kisi K) rfl T.b_isinstance boot_isinstance (da_cons (de_var (pv 0)) (da_cons (de_ty rfl T.b_int boot_int) da_nil))))) (dw_or1 (dt_tru (de_cb (kisi K) rfl T.b_isinstance boot_isinstance (da_cons (de_var (pv 0)) (da_cons (de_ty rfl T.b_bool boot_bool) da_nil)))))))
      (dss_one (ds_ret (de_bl)))
      dss_nil)
      (dss_one (ds_ret (de_and (de_cmp opd_le (de_var (pv 1)) (de_var (pv 0)) (nomark _)) (de_one (de_or (de_cmp opd_isN (de_var (pv 2)) (de_non) (nomark _)) (de_one (de_cmp opd_le (de_var (pv 0)) (de_var (pv 2)) (nomark _)))))))))) (fun ys m F P h => ?_)
  obtain ⟨d, lo, hi, rfl, h⟩ := h
  refine ⟨rfl, _, rfl, _, _, _, rfl, isi_int d, _, rfl, ?_⟩
  cases d with
  | int x =>
    refine ⟨_, rfl, _, _, _, rfl, isi_bool _, _, rfl, _, rfl, _, rfl, _, rfl, ?_⟩
    unfold isB at h
    by_cases h1 : lo ≤ x
    · rw [if_pos (by simpa using h1)]
      refine ⟨_, rfl, rfl, _, rfl, _, rfl, _, rfl, ?_⟩
      simpa [h1] using h
    · rw [if_neg (by simpa using h1)]
      simpa [h1] using h
  | bool b => exact ⟨_, rfl, _, _, _, rfl, isi_bool _, _, rfl, h⟩
  | _ => exact h
abbrev s_check_number : Stmt := top 9
abbrev N_check_number : List Str := ["thing", "low", "high", "name"]
theorem sc_check_number : FnScope N_check_number ["thing", "low", "high", "name"] (defScope s_check_number) := ⟨rfl, rfl, rfl, by decide +kernel, rfl, by decide +kernel, by decide +kernel⟩
def d_check_number : DSp := fun ys m F _ => ∃ d lo hi n, ys = [.d d, .d (.int lo), .d (.int hi), .d (.str n)] ∧ isB d lo hi = true ∧ F (.d .none) m
theorem ok_check_number {f : Addr} {fd : FuncData} (F : Fun K "check_number" "check_number" s_check_number f fd) (T : Txt K mg) {f1 : Addr} {fd1 : FuncData} (G_is_between : GF P w K mg base "is_between" 1 f1 fd1 ["thing", "low", "high"] d_is_between) : FnD P w K mg base 2 f fd ["thing", "low", "high", "name"] d_check_number := by
  refine Dl.Fun.dok F sc_check_number _ (fun cdv A outer s H E B hp =>
      (dss_one (ds_if (dt_not (dt_tru (de_gf G_is_between B.hr B.gd B.tk rfl (da_cons (de_var (pv 0)) (da_cons (de_var (pv 1)) (da_cons (de_var (pv 2)) da_nil))))))
      (dss_one (ds_never))
      dss_nil))) (fun ys m F P h => ?_)
  obtain ⟨d, lo, hi, n, rfl, hb, h⟩ := h
  refine ⟨rfl, _, rfl, _, rfl, _, rfl, _, _, _, rfl, _, rfl, ?_⟩
  rw [hb]
  exact h
abbrev s_check_process : Stmt := top 11
abbrev N_check_process : List Str := ["process"]
theorem sc_check_process : FnScope N_check_process ["process"] (defScope s_check_process) := ⟨rfl, rfl, rfl, by decide +kernel, rfl, by decide +kernel, by decide +kernel⟩
def d_check_process : DSp := fun ys m F _ => ∃ i, ys = [.d (.int i)] ∧ 0 ≤ i ∧ i ≤ 5 ∧ F (.d .none) m
theorem ok_check_process {f : Addr} {fd : FuncData} (F : Fun K "_check_process" "_check_process" s_check_process f fd) (T : Txt K mg) {f1 : Addr} {fd1 : FuncData} (G_check_number : GF P w K mg base "check_number" 2 f1 fd1 ["thing", "low", "high", "name"] d_check_number) : FnD P w K mg base 3 f fd ["process"] d_check_process := by
  refine Dl.Fun.dok F sc_check_process _ (fun cdv A outer s H E B hp =>
      (dss_one (ds_expr (de_gf G_check_number B.hr B.gd B.tk rfl (da_cons (de_var (pv 0)) (da_cons (de_int) (da_cons (de_gi rfl T.c_LAST_PROCESS) (da_cons (de_str) da_nil)))))))) (fun ys m F P h => ?_)
  obtain ⟨i, rfl, h0, h1, h⟩ := h
  exact ⟨rfl, _, rfl, _, _, _, _, rfl, by simp [isB, h0, h1], h⟩
abbrev s_check_rank : Stmt := top 12
abbrev N_check_rank : List Str := ["rank"]
theorem sc_check_rank : FnScope N_check_rank ["rank"] (defScope s_check_rank) := ⟨rfl, rfl, rfl, by decide +kernel, rfl, by decide +kernel, by decide +kernel⟩
def d_check_rank : DSp := fun ys m F _ => ∃ i, ys = [.d (.int i)] ∧ 0 ≤ i ∧ i ≤ 9 ∧ F (.d .none) m
theorem ok_check_rank {f : Addr} {fd : FuncData} (F : Fun K "_check_rank" "_check_rank" s_check_rank f fd) (T : Txt K mg) {f1 : Addr} {fd1 : FuncData} (G_check_number : GF P w K mg base "check_number" 2 f1 fd1 ["thing", "low", "high", "name"] d_check_number) : FnD P w K mg base 3 f fd ["rank"] d_check_rank := by
  refine Dl.Fun.dok F sc_check_rank _ (fun cdv A outer s H E B hp =>
      (dss_one (ds_expr (de_gf G_check_number B.hr B.gd B.tk rfl (da_cons (de_var (pv 0)) (da_cons (de_int) (da_cons (de_gi rfl T.c_LAST_RANK) (da_cons (de_str) da_nil)))))))) (fun ys m F P h => ?_)
  obtain ⟨i, rfl, h0, h1, h⟩ := h
  exact ⟨rfl, _, rfl, _, _, _, _, rfl, by simp [isB, h0, h1], h⟩
abbrev s_check_victims : Stmt := top 13
abbrev N_check_victims : List Str := ["victims", "victim"]
theorem sc_check_victims : FnScope N_check_victims ["victims"] (defScope s_check_victims) := ⟨rfl, rfl, rfl, by decide +kernel, rfl, by decide +kernel, by decide +kernel⟩
def d_check_victims : DSp := fun ys m F _ => ∃ vs : List Int, ys = [.d (.tuple (vs.map ri))] ∧ (∀ v ∈ vs, 0 ≤ v ∧ v ≤ 5) ∧ ∀ m', Mle m m' → F (.d .none) m'
theorem ok_check_victims {f : Addr} {fd : FuncData} (F : Fun K "_check_victims" "_check_victims" s_check_victims f fd) (T : Txt K mg) {f1 : Addr} {fd1 : FuncData} (G_check_process : GF P w K mg base "_check_process" 3 f1 fd1 ["process"] d_check_process) : FnD P w K mg base 4 f fd ["victims"] d_check_victims := by
  refine Dl.Fun.dok F sc_check_victims _ (fun cdv A outer s H E B hp =>
      (dss_cons (ds_if (dt_not (dt_tru (de_cb (kisi K) rfl T.b_isinstance boot_isinstance (da_cons (de_var (pv 0)) (da_cons (de_ty rfl T.b_tuple boot_tuple) da_nil)))))
      (dss_one (ds_never))
      dss_nil)
      (dss_one (ds_for hp rfl (di_seq (de_var (pv 0))) (dg_name (i := 1) sc_check_victims.nd rfl (by first | exact Or.inl rfl | exact Or.inr rfl))
      (dss_one (ds_expr (de_gf G_check_process B.hr B.gd B.tk rfl (da_cons (de_var (pv 1)) da_nil)))))))) (fun ys m F P h => ?_)
  obtain ⟨vs, rfl, hv, h⟩ := h
  have ht : PySem.W.kitOne K (.type (tyD (.tuple (vs.map ri)))) (.type "tuple") = some true := kit_ty (show kitB "tuple" "tuple" = some true by decide +kernel)
  refine ⟨rfl, _, rfl, _, _, _, rfl, ht, _, rfl, ?_⟩
  refine ⟨_, rfl, (vs.map ri).map Y.d, rfl, fun j r m' => m' = m ∧ ∃ o, r = [some (.d (.tuple (vs.map ri))), o], ⟨rfl, _, rfl⟩, ?_⟩
  rintro j _ _ hj ⟨rfl, o, rfl⟩
  refine ⟨fun _ e => (nomatch e), fun hlt => ?_, fun _ => h _ Mle.refl⟩
  have hj' : j < vs.length := by
    have hlt' : j < ((vs.map ri).map Y.d).length := hlt
    rwa [List.length_map, List.length_map] at hlt'
  have hb := hv _ (List.getElem_mem hj')
  exact ⟨.d (ri vs[j]), by rw [List.getElem?_map, List.getElem?_map, List.getElem?_eq_getElem hj']; rfl, _, rfl, vs[j], rfl, hb.1, hb.2, rfl, _, rfl⟩
abbrev s_init : Stmt := inClass (top 15) 1
abbrev N_init : List Str := ["self", "units"]
theorem sc_init : FnScope N_init ["self", "units"] (defScope s_init) := ⟨rfl, rfl, rfl, by decide +kernel, rfl, by decide +kernel, by decide +kernel⟩
def d_init (C : Addr) : DSp := fun ys m F _ => ∃ a dx u, ys = [.l a, .d (.int u)] ∧ 1 ≤ u ∧ u ≤ 3 ∧ m a = some (.ins C dx []) ∧ ∀ p m', m p = none → At C m' a u p [] → Mle (mu (mu m p (.lst [])) a (.ins C dx (flds u p))) m' → F (.d .none) m'
theorem ok_init {f : Addr} {fd : FuncData} (F : Fun K "__init__" "Line.__init__" s_init f fd) (T : Txt K mg) {C : Addr} (L : Lin K C) {f1 : Addr} {fd1 : FuncData} (G_check_number : GF P w K mg base "check_number" 2 f1 fd1 ["thing", "low", "high", "name"] d_check_number) : FnD P w K mg base 3 f fd ["self", "units"] (d_init C) := by
  refine Dl.Fun.dok F sc_init _ (fun cdv A outer s H E B hp =>
      (dss_cons (ds_expr (de_gf G_check_number B.hr B.gd B.tk rfl (da_cons (de_var (pv 1)) (da_cons (de_int) (da_cons (kcon K (de_var (pv 0))) (da_cons (de_str) da_nil))))))
      (dss_cons (ksetF K (de_var (pv 0)) (de_var (pv 1)))
      (dss_one (ksetF K (de_var (pv 0)) (de_lstM da_nil)))))) (fun ys m F P h => ?_)
  obtain ⟨a, dx, u, rfl, h1, h2, ha, h⟩ := h
  obtain ⟨t, hM⟩ := L.mU
  refine ⟨rfl, _, rfl, _, rfl, a, C, dx, _, _, _, _, rfl, ha, L.cl, hM, rfl, fun G => .d (.int 3), _, _, _, _, rfl, by simp [isB, h1, h2], ?_⟩
  refine ⟨_, rfl, _, rfl, a, C, dx, _, rfl, ha, L.cl, L.nU, by decide, ?_⟩
  refine ⟨by decide, fun p hp => ?_⟩
  have np : a ≠ p := fun e => by subst e; rw [mu_same] at hp; cases hp
  have hp' : m p = none := by rwa [mu_ne np.symm] at hp
  refine ⟨_, rfl, a, C, dx, _, rfl, (mu_ne np).trans mu_same, L.cl, L.nR, Nat.le_of_ble_eq_true rfl, ?_⟩
  have e1 : putY ("_requests" : Str) (.l p) (putY ("_units" : Str) (.d (.int u)) []) = flds u p := by
    show (if ("_units" : Str) = "_requests" then _ else (("_units" : Str), Y.d (.int u)) :: putY ("_requests" : Str) (.l p) []) = _
    rw [if_neg (by decide +kernel)]
    rfl
  refine h p _ hp' ⟨⟨dx, mu_same.trans (by rw [e1])⟩, (mu_ne np.symm).trans mu_same⟩ fun b o e => ?_
  rw [e1]
  by_cases q : b = a
  · subst q; rw [mu_same] at e ⊢; exact e
  · rw [mu_ne q] at e ⊢
    by_cases q2 : b = p
    · subst q2; rw [mu_same] at e ⊢; exact e
    · rw [mu_ne q2] at e ⊢; rw [mu_ne q]; exact e
abbrev s_holders : Stmt := inClass (top 15) 8
abbrev N_holders : List Str := ["self", "rank", "process", "holds"]
theorem sc_holders : FnScope N_holders ["self"] (defScope s_holders) := ⟨rfl, rfl, rfl, by decide +kernel, rfl, by decide +kernel, by decide +kernel⟩
def hHeld : Y → Option Y
  | .d (.tuple [x, y, .bool true]) => some (.d (.tuple [x, y]))
  | _ => none
theorem hHeld_all : ∀ rs : List Rq, (rs.map rqY).filterMap hHeld = (heldL rs).map Y.d
  | [] => rfl
  | ⟨k, i, true⟩ :: rs => congrArg (Y.d (.tuple [ri k, ri i]) :: ·) (hHeld_all rs)
  | ⟨k, i, false⟩ :: rs => hHeld_all rs
theorem heldL_len (rs : List Rq) : (heldL rs).length = heldN rs := List.length_map _
theorem heldN_le (rs : List Rq) : heldN rs ≤ rs.length := List.length_filter_le _ _
def d_holders (C : Addr) : DSp := fun ys m F _ => ∃ a u p rs, ys = [.l a] ∧ At C m a u p rs ∧ rs.length ≤ 5000 ∧ ∀ m', Mle m m' → F (.d (.tuple (heldL rs))) m'
theorem ok_holders {f : Addr} {fd : FuncData} (F : Fun K "holders" "Line.holders" s_holders f fd) (T : Txt K mg) {C : Addr} (L : Lin K C) : FnD P w K mg base 1 f fd ["self"] (d_holders C) := by
  refine Dl.Fun.dok F sc_holders _ (fun cdv A outer s H E B hp =>
      (dss_one (ds_ret (de_cty cd_tuple rfl T.b_tuple boot_tuple (da_cons (de_lc (fin := finD) finD_ok rfl sc_holders.nd (di_seq (kfld K (de_var (pv 0)))) (blkOk_by (own := [("rank", 1), ("process", 2), ("holds", 3)]) (N := N_holders) (sc := defScope s_holders) (by decide +kernel)) (fun _ _ _ _ _ => pg_tup (n := 3) rfl (pgs_cons (pg_name (i := 1) sc_holders.nd rfl (by first | exact Or.inl rfl | exact Or.inr rfl)) (pgs_cons (pg_name (i := 2) sc_holders.nd rfl (by first | exact Or.inl rfl | exact Or.inr rfl)) (pgs_cons (pg_name (i := 3) sc_holders.nd rfl (by first | exact Or.inl rfl | exact Or.inr rfl)) pgs_nil)))) (dgw_tup (n := 3) (dgw_cons (dgw_name (i := 1) (by decide)) (dgw_cons (dgw_name (i := 2) (by decide)) (dgw_cons (dgw_name (i := 3) (by decide)) dgw_nil)))) (fun _ _ _ _ _ => dts_one (dt_tru (de_var (pv 3)))) (fun _ _ _ _ _ => de_tup (da_cons (de_var (pv 1)) (da_cons (de_var (pv 2)) da_nil)))) da_nil))))) (fun ys m F P h => ?_)
  obtain ⟨a, u, p, rs, rfl, A, hl, h⟩ := h
  obtain ⟨dx, ho⟩ := A.ob
  refine ⟨rfl, _, rfl, a, C, dx, _, _, rfl, ho, L.cl, L.nR, fl_r u p, rs.map rqY, .inl A.ls, ?_⟩
  refine lc_seq hHeld (by rw [List.length_map]; omega) (fun q e => by cases e; rw [A.ls]; exact Option.some_ne_none _) (fun z M hz hM C' N' hC hN => ?_) (fun D M hD hM => ?_)
  · obtain ⟨q, _, rfl⟩ := List.mem_map.mp hz
    refine tup3 ⟨_, _, rfl, _, _, rfl, _, _, rfl, rfl, _, rfl, q.held, rfl, ?_⟩
    obtain ⟨k, i, b⟩ := q
    cases b with
    | true => exact ⟨_, rfl, _, rfl, len2 _ _, hC _ M rfl Mle.refl⟩
    | false => exact hN M rfl Mle.refl
  · rw [hHeld_all] at hM ⊢
    refine ⟨_, rfl, _, rfl, .inr ⟨_, rfl, ?_⟩⟩
    unfold mkT
    rw [allD_map]
    exact h _ (((Mle.new hD).trans hM).drop hD)
abbrev s_free : Stmt := inClass (top 15) 4
abbrev N_free : List Str := ["self"]
theorem sc_free : FnScope N_free ["self"] (defScope s_free) := ⟨rfl, rfl, rfl, by decide +kernel, rfl, by decide +kernel, by decide +kernel⟩
def d_free (C : Addr) : DSp := fun ys m F _ => ∃ a u p rs, ys = [.l a] ∧ At C m a u p rs ∧ rs.length ≤ 5000 ∧ ∀ m', Mle m m' → F (.d (.int (u - (heldN rs : Int)))) m'
theorem ok_free {f : Addr} {fd : FuncData} (F : Fun K "free" "Line.free" s_free f fd) (T : Txt K mg) {C : Addr} (L : Lin K C) {f1 : Addr} {fd1 : FuncData} (M_holders : MF P w K mg base C "holders" 3 f1 fd1 ["self"] (d_holders C)) : FnD P w K mg base 4 f fd ["self"] (d_free C) := by
  refine Dl.Fun.dok F sc_free _ (fun cdv A outer s H E B hp =>
      (dss_one (ds_ret (de_op opd_sub (kfld K (de_var (pv 0))) (de_cb cd_len rfl T.b_len boot_len (da_cons (de_mf0 (de_var (pv 0)) M_holders B.hr B.gd B.tk) da_nil)))))) (fun ys m F P h => ?_)
  obtain ⟨a, u, p, rs, rfl, A, hl, h⟩ := h
  obtain ⟨dx, ho⟩ := A.ob
  refine ⟨rfl, _, rfl, a, C, dx, _, _, rfl, ho, L.cl, L.nU, fl_u u p, _, rfl, a, dx, _, rfl, ho, fl_no u p (by decide +kernel) (by decide +kernel), a, u, p, rs, rfl, A, hl, fun m' hm' => ?_⟩
  refine ⟨_, (heldL rs).map Y.d, rfl, .inr rfl, ?_⟩
  rw [List.length_map, heldL_len]
  exact h m' hm'
abbrev s_served : Stmt := inClass (top 15) 13
abbrev N_served : List Str := ["self", "at", "row"]
theorem sc_served : FnScope N_served ["self"] (defScope s_served) := ⟨rfl, rfl, rfl, by decide +kernel, rfl, by decide +kernel, by decide +kernel⟩
def hWait (i : Nat) : Y → Option Y
  | .d (.tuple [_, _, .bool false]) => some (.d (ri (i : Nat)))
  | _ => none
theorem hWait_all (rs : List Rq) : (rs.map rqY).zipIdx.filterMap (fun p => hWait p.2 p.1) = ((sv0 rs).map fun i => ri (i : Nat)).map Y.d := by
  unfold sv0
  rw [List.zipIdx_map, List.filterMap_map, List.map_map, List.map_filterMap]
  congr 1
  funext p
  obtain ⟨⟨k, i, b⟩, n⟩ := p
  cases b <;> rfl
def d_served (C : Addr) (sv : List Rq → List Nat) : DSp := fun ys m F _ => ∃ a u p rs, ys = [.l a] ∧ At C m a u p rs ∧ rs.length ≤ 5000 ∧ ∀ m', Mle m m' → F (.d (.list ((sv rs).map fun i => ri (i : Nat)))) m'
theorem ok_served {f : Addr} {fd : FuncData} (F : Fun K "_served" "Line._served" s_served f fd) (T : Txt K mg) {C : Addr} (L : Lin K C) : FnD P w K mg base 1 f fd ["self"] (d_served C sv0) := by
  refine Dl.Fun.dok F sc_served _ (fun cdv A outer s H E B hp =>
      (dss_one (ds_ret (de_lc (fin := finD) finD_ok rfl sc_served.nd (di_enum rfl T.b_enumerate (da_cons (kfld K (de_var (pv 0))) da_nil)) (blkOk_by (own := [("at", 1), ("row", 2)]) (N := N_served) (sc := defScope s_served) (by decide +kernel)) (fun _ _ _ _ _ => pg_tup (n := 2) rfl (pgs_cons (pg_name (i := 1) sc_served.nd rfl (by first | exact Or.inl rfl | exact Or.inr rfl)) (pgs_cons (pg_name (i := 2) sc_served.nd rfl (by first | exact Or.inl rfl | exact Or.inr rfl)) pgs_nil))) (dgw_tup (n := 2) (dgw_cons (dgw_name (i := 1) (by decide)) (dgw_cons (dgw_name (i := 2) (by decide)) dgw_nil))) (fun _ _ _ _ _ => dts_one (dt_not (dt_tru (de_ix (de_var (pv 2)) (de_int) (by intro _ _; rfl))))) (fun _ _ _ _ _ => de_var (pv 1)))))) (fun ys m F P h => ?_)
  obtain ⟨a, u, p, rs, rfl, A, hl, h⟩ := h
  obtain ⟨dx, ho⟩ := A.ob
  refine ⟨rfl, _, rfl, a, C, dx, _, _, rfl, ho, L.cl, L.nR, fl_r u p, _, rs.map rqY, rfl, A.ls, ?_⟩
  refine lc_enum hWait (by rw [List.length_map]; omega) (fun q e => by cases e; rw [A.ls]; exact Option.some_ne_none _) (fun j z M hz hM C' N' hC hN => ?_) (fun D M hD hM => ?_)
  · obtain ⟨q, _, rfl⟩ := List.mem_map.mp (List.mem_of_getElem? hz)
    obtain ⟨k, i, b⟩ := q
    refine tup2 (.inl ⟨_, _, rfl, rfl, rfl⟩) ⟨_, _, rfl, _, _, rfl, rfl, _, rfl, 2, _, .d (.bool b), rfl, rfl, rfl, b, tru_b b, ?_⟩
    cases b with
    | false => exact ⟨_, rfl, hC _ M rfl Mle.refl⟩
    | true => exact hN M rfl Mle.refl
  · rw [hWait_all] at hM ⊢
    exact fin_d _ rfl hD hM h
abbrev s_waiting : Stmt := inClass (top 15) 9
abbrev N_waiting : List Str := ["self", "at"]
theorem sc_waiting : FnScope N_waiting ["self"] (defScope s_waiting) := ⟨rfl, rfl, rfl, by decide +kernel, rfl, by decide +kernel, by decide +kernel⟩
def d_waiting (C : Addr) (sv : List Rq → List Nat) : DSp := fun ys m F _ => ∃ a u p rs, ys = [.l a] ∧ At C m a u p rs ∧ rs.length ≤ 5000 ∧ ∀ m', Mle m m' → F (.d (.tuple (waitL sv rs))) m'
theorem ok_waiting {f : Addr} {fd : FuncData} (F : Fun K "waiting" "Line.waiting" s_waiting f fd) (T : Txt K mg) {C : Addr} {sv : List Rq → List Nat} (V : Sv sv) (L : Lin K C) {f1 : Addr} {fd1 : FuncData} (M_served : MF P w K mg base C "_served" 2 f1 fd1 ["self"] (d_served C sv)) : FnD P w K mg base 3 f fd ["self"] (d_waiting C sv) := by
  refine Dl.Fun.dok F sc_waiting _ (fun cdv A outer s H E B hp =>
      (dss_one (ds_ret (de_cty cd_tuple rfl T.b_tuple boot_tuple (da_cons (de_lc (fin := finD) finD_ok rfl sc_waiting.nd (di_seq (de_mf0 (de_var (pv 0)) M_served B.hr B.gd B.tk)) (blkOk_by (own := [("at", 1)]) (N := N_waiting) (sc := defScope s_waiting) (by decide +kernel)) (fun _ _ _ _ _ => pg_name (i := 1) sc_waiting.nd rfl (by first | exact Or.inl rfl | exact Or.inr rfl)) (dgw_name (i := 1) (by decide)) (fun _ _ _ _ _ => dts_nil) (fun _ _ _ _ _ => de_sl sld_T (de_ix (kfld K (de_var (pv 0))) (de_var (pv 1)) (by intro _ _; rfl)) do_none (do_some (de_int)))) da_nil))))) (fun ys m F P h => ?_)
  obtain ⟨a, u, p, rs, rfl, A, hl, h⟩ := h
  obtain ⟨dx, ho⟩ := A.ob
  refine ⟨rfl, _, rfl, a, dx, _, rfl, ho, fl_no u p (by decide +kernel) (by decide +kernel), a, u, p, rs, rfl, A, hl, fun m1 hm1 => ⟨_, rfl, ?_⟩⟩
  let hW : Y → Option Y := fun y => match y with
    | .d (.int i) => (rs[i.toNat]?).map fun q => .d (pairD q)
    | _ => none
  have hW_all : (((sv rs).map fun i => ri (i : Nat)).map Y.d).filterMap hW = (waitL sv rs).map Y.d := by
    unfold waitL
    rw [List.map_map, List.filterMap_map, List.map_filterMap]
    congr 1
    funext i
    show (rs[((i : Nat) : Int).toNat]?).map _ = _
    rw [Int.toNat_natCast, Option.map_map]
    rfl
  refine lc_seq hW (by rw [List.length_map, List.length_map]; exact Nat.le_trans (V.len rs) (by omega)) (fun q e => by cases e) (fun z M hz hM C' N' hC hN => ?_) (fun D M hD hM => ?_)
  · obtain ⟨_, hz1, rfl⟩ := List.mem_map.mp hz
    obtain ⟨i, hi, rfl⟩ := List.mem_map.mp hz1
    have hlt := V.lt rs i hi
    have A1 := (A.le hm1).le hM
    obtain ⟨dy, ho1⟩ := A1.ob
    have e1 : rs[i]? = some rs[i] := List.getElem?_eq_getElem hlt
    refine ⟨_, rfl, a, C, dy, _, _, rfl, ho1, L.cl, L.nR, fl_r u p, _, rfl, (i : Nat), rs.map rqY, rqY rs[i], rfl, .inl A1.ls, ?_, ?_⟩
    · unfold atI ixN
      rw [if_pos (Int.natCast_nonneg i), List.length_map, if_pos (by omega), Option.bind_some, Int.toNat_natCast, List.getElem?_map, e1]
      rfl
    · refine ⟨2, rfl, _, rfl, hC _ M ?_ Mle.refl⟩
      show (rs[((i : Nat) : Int).toNat]?).map _ = _
      rw [Int.toNat_natCast, e1]
      rfl
  · rw [hW_all] at hM ⊢
    refine ⟨_, rfl, _, rfl, .inr ⟨_, rfl, ?_⟩⟩
    unfold mkT
    rw [allD_map]
    exact h _ (hm1.trans (((Mle.new hD).trans hM).drop hD))
abbrev s_length : Stmt := inClass (top 15) 5
abbrev N_length : List Str := ["self"]
theorem sc_length : FnScope N_length ["self"] (defScope s_length) := ⟨rfl, rfl, rfl, by decide +kernel, rfl, by decide +kernel, by decide +kernel⟩
def d_length (C : Addr) (sv : List Rq → List Nat) : DSp := fun ys m F _ => ∃ a u p rs, ys = [.l a] ∧ At C m a u p rs ∧ rs.length ≤ 5000 ∧ ∀ m', Mle m m' → F (.d (.int (waitL sv rs).length)) m'
theorem ok_length {f : Addr} {fd : FuncData} (F : Fun K "length" "Line.length" s_length f fd) (T : Txt K mg) {C : Addr} {sv : List Rq → List Nat} (V : Sv sv) (L : Lin K C) {f1 : Addr} {fd1 : FuncData} (M_waiting : MF P w K mg base C "waiting" 5 f1 fd1 ["self"] (d_waiting C sv)) : FnD P w K mg base 6 f fd ["self"] (d_length C sv) := by
  refine Dl.Fun.dok F sc_length _ (fun cdv A outer s H E B hp =>
      (dss_one (ds_ret (de_cb cd_len rfl T.b_len boot_len (da_cons (de_mf0 (de_var (pv 0)) M_waiting B.hr B.gd B.tk) da_nil))))) (fun ys m F P h => ?_)
  obtain ⟨a, u, p, rs, rfl, A, hl, h⟩ := h
  obtain ⟨dx, ho⟩ := A.ob
  refine ⟨rfl, _, rfl, a, dx, _, rfl, ho, fl_no u p (by decide +kernel) (by decide +kernel), a, u, p, rs, rfl, A, hl, fun m' hm' => ?_⟩
  refine ⟨_, (waitL sv rs).map Y.d, rfl, .inr rfl, ?_⟩
  rw [List.length_map]
  exact h m' hm'
abbrev s_repr : Stmt := inClass (top 15) 3
abbrev N_repr : List Str := ["self"]
theorem sc_repr : FnScope N_repr ["self"] (defScope s_repr) := ⟨rfl, rfl, rfl, by decide +kernel, rfl, by decide +kernel, by decide +kernel⟩
def rpS (nm : Str) (u : Int) (n : Nat) : Str := ((((Str.empty ++ nm) ++ Str.ofString (toString u)) ++ " units, ") ++ Str.ofString (toString (n : Int))) ++ " waiting)"
def d_repr (C : Addr) (sv : List Rq → List Nat) (nm : Str) : DSp := fun ys m F _ => ∃ a u p rs, ys = [.l a] ∧ At C m a u p rs ∧ rs.length ≤ 5000 ∧ (1 ≤ u ∧ u ≤ 3) ∧ (waitL sv rs).length ≤ 100 ∧ ∀ m', Mle m m' → F (.d (.str (rpS nm u (waitL sv rs).length))) m'
theorem ok_repr {f : Addr} {fd : FuncData} (F : Fun K "__repr__" "Line.__repr__" s_repr f fd) (T : Txt K mg) {C : Addr} {sv : List Rq → List Nat} (L : Lin K C) {f1 p1 : Addr} {fd1 : FuncData} (P_length : PF P w K mg base C "length" 6 p1 f1 fd1 ["self"] (d_length C sv)) : FnD P w K mg base 8 f fd ["self"] (d_repr C sv "Line(") := by
  refine Dl.Fun.dok F sc_repr _ (fun cdv A outer s H E B hp =>
      (dss_one (ds_ret (de_fstr (.str (.fmt (kfld K (de_var (pv 0))) (.str (.fmt (de_pf (de_var (pv 0)) P_length B.hr B.gd) (.str .nil))))))))) (fun ys m F P h => ?_)
  obtain ⟨a, u, p, rs, rfl, A, hl, hu, hw, h⟩ := h
  obtain ⟨dx, ho⟩ := A.ob
  have hf := fmt_i (log_small (i := u) (Nat.lt_of_le_of_lt (show u.natAbs ≤ 5 by omega) (by decide +kernel)))
  have hf2 := fmt_i (log_small (i := ((waitL sv rs).length : Int)) (Nat.lt_of_le_of_lt (show (((waitL sv rs).length : Nat) : Int).natAbs ≤ 5000 by omega) (by decide +kernel)))
  have hz := fmt_len hf
  have hz2 := fmt_len hf2
  have z1 : (Str.empty ++ Str.ofString "Line(").length = 5 := by decide +kernel
  have z2 : (Str.ofString " units, ").length = 8 := by decide +kernel
  have z3 : (Str.ofString " waiting)").length = 9 := by decide +kernel
  refine ⟨rfl, _, fmt_s (by decide +kernel), by decide +kernel, _, rfl, a, C, dx, _, _, rfl, ho, L.cl, L.nU, fl_u u p, _, hf, by rw [str_app, z1]; omega, _, fmt_s (by decide +kernel), by rw [str_app, str_app, z1, z2]; omega, ?_⟩
  refine ⟨_, rfl, a, dx, _, rfl, ho, a, u, p, rs, rfl, A, hl, fun m' hm' => ?_⟩
  exact ⟨_, hf2, by rw [str_app, str_app, str_app, z1, z2]; omega, _, fmt_s (by decide +kernel), by rw [str_app, str_app, str_app, str_app, z1, z2, z3]; omega, h m' hm'⟩
abbrev s_request : Stmt := inClass (top 15) 6
abbrev N_request : List Str := ["self", "process", "rank", "holds"]
theorem sc_request : FnScope N_request ["self", "process", "rank"] (defScope s_request) := ⟨rfl, rfl, rfl, by decide +kernel, rfl, by decide +kernel, by decide +kernel⟩
def d_request (C : Addr) : DSp := fun ys m F _ => ∃ a u p rs i k, ys = [.l a, .d (.int i), .d (.int k)] ∧ 0 ≤ i ∧ i ≤ 5 ∧ 0 ≤ k ∧ k ≤ 9 ∧ At C m a u p rs ∧ rs.length ≤ 5000 ∧
  ∀ m', Mle (mu m p (.lst ((askF u rs i k).map rqY))) m' → F (.d (.bool (decide (0 < u - (heldN rs : Int))))) m'
theorem ok_request {f : Addr} {fd : FuncData} (F : Fun K "request" "Line.request" s_request f fd) (T : Txt K mg) {C : Addr} (L : Lin K C) {f1 f2 f3 p3 : Addr} {fd1 fd2 fd3 : FuncData} (G_check_process : GF P w K mg base "_check_process" 3 f1 fd1 ["process"] d_check_process) (G_check_rank : GF P w K mg base "_check_rank" 3 f2 fd2 ["rank"] d_check_rank) (P_free : PF P w K mg base C "free" 4 p3 f3 fd3 ["self"] (d_free C)) : FnD P w K mg base 6 f fd ["self", "process", "rank"] (d_request C) := by
  refine Dl.Fun.dok F sc_request _ (fun cdv A outer s H E B hp =>
      (dss_cons (ds_expr (de_gf G_check_process B.hr B.gd B.tk rfl (da_cons (de_var (pv 1)) da_nil)))
      (dss_cons (ds_expr (de_gf G_check_rank B.hr B.gd B.tk rfl (da_cons (de_var (pv 2)) da_nil)))
      (dss_cons (ds_set (i := 3) sc_request.nd rfl (by first | exact Or.inl rfl | exact Or.inr rfl) (de_cmp opd_gt (de_pf (de_var (pv 0)) P_free B.hr B.gd) (de_int) (nomark _)))
      (dss_cons (ds_expr (de_bm md_append PySem.F.plainAttrs_list PySem.F.slot_list_append PySem.F.type_list_append (kfld K (de_var (pv 0))) (da_cons (de_tup (da_cons (de_var (pv 2)) (da_cons (de_var (pv 1)) (da_cons (de_var (pv 3)) da_nil)))) da_nil)))
      (dss_one (ds_ret (de_var (pv 3))))))))) (fun ys m F P h => ?_)
  obtain ⟨a, u, p, rs, i, k, rfl, i0, i5, k0, k9, A, hl, h⟩ := h
  obtain ⟨dx, ho⟩ := A.ob
  refine ⟨rfl, _, rfl, _, rfl, i0, i5, _, rfl, _, rfl, k0, k9, _, rfl, a, dx, _, rfl, ho, a, u, p, rs, rfl, A, hl, fun m1 hm1 => ?_⟩
  have A1 := A.le hm1
  obtain ⟨dy, ho1⟩ := A1.ob
  refine ⟨_, rfl, a, C, dy, _, _, rfl, ho1, L.cl, L.nR, fl_r u p, .inl ⟨rfl, _, A1.ls⟩, _, rfl, _, rfl, _, rfl, len3 _ _ _, p, rs.map rqY, _, rfl, rfl, A1.ls, by rw [List.length_map]; omega, _, rfl, ?_⟩
  refine h _ ?_
  have e1 : (askF u rs i k).map rqY = rs.map rqY ++ [Y.d (.tuple [ri k, ri i, .bool (decide (0 < u - (heldN rs : Int)))])] := by
    unfold askF
    rw [List.map_append]
    rfl
  rw [e1]
  exact hm1.mu
abbrev s_release : Stmt := inClass (top 15) 7
abbrev N_release : List Str := ["self", "process", "held", "places", "rank", "follower", "_", "at", "owner", "holds"]
theorem sc_release : FnScope N_release ["self", "process"] (defScope s_release) := ⟨rfl, rfl, rfl, by decide +kernel, rfl, by decide +kernel, by decide +kernel⟩
def hOwn (i : Int) (j : Nat) : Y → Option Y
  | .d (.tuple [_, .int o, .bool true]) => if o = i then some (.d (ri (j : Nat))) else none
  | _ => none
theorem hOwn_all (i : Int) (rs : List Rq) : (rs.map rqY).zipIdx.filterMap (fun p => hOwn i p.2 p.1) = ((ownL rs i).map fun j => ri (j : Nat)).map Y.d := by
  unfold ownL
  rw [List.zipIdx_map, List.filterMap_map, List.map_map, List.map_filterMap]
  congr 1
  funext p
  obtain ⟨⟨k, o, b⟩, n⟩ := p
  cases b with
  | false => rfl
  | true =>
    show (if o = i then _ else _) = Option.map _ (if (true && decide (o = i)) = true then some n else none)
    by_cases h : o = i
    · rw [if_pos h, if_pos (by simpa using h)]; rfl
    · rw [if_neg h, if_neg (by simpa using h)]; rfl
def d_release (C E : Addr) (sv : List Rq → List Nat) : DSp := fun ys m F Q => ∃ a u p rs i, ys = [.l a, .d (.int i)] ∧ 0 ≤ i ∧ i ≤ 5 ∧ At C m a u p rs ∧ rs.length ≤ 5000 ∧
  (relF sv rs i = none → ∀ m', Mle m m' → Q (.ref E) [] m') ∧ (∀ rs' d, relF sv rs i = some (rs', d) → ∀ m', Mle (mu m p (.lst (rs'.map rqY))) m' → F (.d d) m')
theorem ok_release {f : Addr} {fd : FuncData} (F : Fun K "release" "Line.release" s_release f fd) (T : Txt K mg) {C : Addr} {sv : List Rq → List Nat} (V : Sv sv) (L : Lin K C) {f1 f2 : Addr} {fd1 fd2 : FuncData} (G_check_process : GF P w K mg base "_check_process" 3 f1 fd1 ["process"] d_check_process) (M_served : MF P w K mg base C "_served" 2 f2 fd2 ["self"] (d_served C sv)) (X_HoldError : XcF K mg "HoldError" E) : FnD P w K mg base 4 f fd ["self", "process"] (d_release C E sv) := by
  refine Dl.Fun.dok F sc_release _ (fun cdv A outer s H E B hp =>
      (dss_cons (ds_expr (de_gf G_check_process B.hr B.gd B.tk rfl (da_cons (de_var (pv 1)) da_nil)))
      (dss_cons (ds_setLc (i := 2) (fin := finD) finD_ok rfl sc_release.nd rfl rfl (sw_true rfl rfl rfl (by decide +kernel)) (di_enum rfl T.b_enumerate (da_cons (kfld K (de_var (pv 0))) da_nil)) (blkOk_by (own := [("at", 7), ("_", 6), ("owner", 8), ("holds", 9)]) (N := N_release) (sc := defScope s_release) (by decide +kernel)) (fun _ _ _ _ _ => pg_tup (n := 2) rfl (pgs_cons (pg_name (i := 7) sc_release.nd rfl (by first | exact Or.inl rfl | exact Or.inr rfl)) (pgs_cons (pg_tup (n := 3) rfl (pgs_cons (pg_name (i := 6) sc_release.nd rfl (by first | exact Or.inl rfl | exact Or.inr rfl)) (pgs_cons (pg_name (i := 8) sc_release.nd rfl (by first | exact Or.inl rfl | exact Or.inr rfl)) (pgs_cons (pg_name (i := 9) sc_release.nd rfl (by first | exact Or.inl rfl | exact Or.inr rfl)) pgs_nil)))) pgs_nil))) (dgw_tup (n := 2) (dgw_cons (dgw_name (i := 7) (by decide)) (dgw_cons (dgw_tup (n := 3) (dgw_cons (dgw_name (i := 6) (by decide)) (dgw_cons (dgw_name (i := 8) (by decide)) (dgw_cons (dgw_name (i := 9) (by decide)) dgw_nil)))) dgw_nil))) (fun _ _ _ _ _ => dts_one (DW.dt (dw_and (dt_tru (de_var (pv 9))) (dw_and1 (dt_cmp (opd_eq (Dl.Room.u64 B.hr)) (de_var (pv 8)) (de_var (pv 1)) (nomark _)))))) (fun _ _ _ _ _ => de_var (pv 7)))
      (dss_cons (ds_if (dt_not (dt_tru (de_var (pv 2))))
      (dss_one (kraise rfl B.tk X_HoldError rfl (de_fstr (.str (.fmt (de_var (pv 1)) (.str .nil))))))
      dss_nil)
      (dss_cons (ds_del (kfld K (de_var (pv 0))) (de_ix (de_var (pv 2)) (de_neg (de_int)) (by intro _ _; rfl)))
      (dss_cons (ds_set (i := 3) sc_release.nd rfl (by first | exact Or.inl rfl | exact Or.inr rfl) (de_mf0 (de_var (pv 0)) M_served B.hr B.gd B.tk))
      (dss_cons (ds_if (dt_not (dt_tru (de_var (pv 3))))
      (dss_one (ds_ret (de_non)))
      dss_nil)
      (dss_cons (ds_asg (de_ix (kfld K (de_var (pv 0))) (de_ix (de_var (pv 3)) (de_int) (by intro _ _; rfl)) (by intro _ _; rfl)) (dg_tup (n := 3) rfl (dgs_cons (dg_name (i := 4) sc_release.nd rfl (by first | exact Or.inl rfl | exact Or.inr rfl)) (dgs_cons (dg_name (i := 5) sc_release.nd rfl (by first | exact Or.inl rfl | exact Or.inr rfl)) (dgs_cons (dg_name (i := 6) sc_release.nd rfl (by first | exact Or.inl rfl | exact Or.inr rfl)) dgs_nil)))))
      (dss_cons (ds_asg (de_tup (da_cons (de_var (pv 4)) (da_cons (de_var (pv 5)) (da_cons (de_bl) da_nil)))) (dg_sub (W := W0) (kfld K (de_var (pv 0))) (de_ix (de_var (pv 3)) (de_int) (by intro _ _; rfl))))
      (dss_one (ds_ret (de_var (pv 5))))))))))))) (fun ys m F P h => ?_)
  obtain ⟨a, u, p, rs, i, rfl, i0, i5, A, hl, hn, hs⟩ := h
  obtain ⟨dx, ho⟩ := A.ob
  refine ⟨rfl, _, rfl, i, rfl, i0, i5, _, rfl, a, C, dx, _, _, rfl, ho, L.cl, L.nR, fl_r u p, _, rs.map rqY, rfl, A.ls, ?_⟩
  refine lc_enum (hOwn i) (by rw [List.length_map]; omega) (fun q e => by cases e; rw [A.ls]; exact Option.some_ne_none _) (fun j z M hz hM C' N' hC hN => ?_) (fun D M hD hM => ?_)
  · obtain ⟨q, _, rfl⟩ := List.mem_map.mp (List.mem_of_getElem? hz)
    obtain ⟨k, o, b⟩ := q
    refine tup2 (.inl ⟨_, _, rfl, rfl, rfl⟩) ⟨_, _, rfl, _, _, rfl, tup3 ⟨_, _, rfl, _, _, rfl, _, _, rfl, rfl, rfl, _, rfl, b, tru_b b, ?_⟩⟩
    cases b with
    | false => exact iteF (hN M rfl Mle.refl)
    | true =>
      refine iteT ⟨_, rfl, _, rfl, eq_int ⟨_, rfl, ?_⟩⟩
      exact iteD (fun h => ⟨_, rfl, hC _ M (if_pos h) Mle.refl⟩) (fun h => hN M (if_neg h) Mle.refl)
  · rw [hOwn_all] at hM ⊢
    refine fin_d _ rfl hD hM fun m1 hm1 => ?_
    have A1 := A.le hm1
    obtain ⟨dy, ho1⟩ := A1.ob
    refine ⟨_, rfl, _, (show truD _ = _ from rfl), ?_⟩
    rcases List.eq_nil_or_concat (ownL rs i) with e0 | ⟨L0, j, e0⟩
    · rw [e0]
      have hf := fmt_i (log_small (i := i) (Nat.lt_of_le_of_lt (show i.natAbs ≤ 5 by omega) (by decide +kernel)))
      have hz := fmt_len hf
      have z1 : (Str.empty ++ Str.ofString "process ").length = 8 := by decide +kernel
      have z2 : (Str.ofString " holds no unit").length = 14 := by decide +kernel
      refine iteT ⟨_, fmt_s (by decide +kernel), by decide +kernel, _, rfl, _, hf, by rw [str_app, z1]; omega, _, fmt_s (by decide +kernel), by rw [str_app, str_app, z1, z2]; omega, ?_⟩
      exact hn (by unfold relF lastH; rw [e0]; rfl) m1 hm1
    · have hj : lastH rs i = some j := by unfold lastH; rw [e0]; simp
      have hjl : j < rs.length := by
        have : j ∈ ownL rs i := by rw [e0]; simp
        unfold ownL at this
        obtain ⟨q, hq1, hq2⟩ := List.mem_filterMap.mp this
        split at hq2
        · cases hq2
          have := (List.mem_zipIdx hq1).2.1
          omega
        · cases hq2
      rw [e0]
      refine iteE (by rw [List.concat_eq_append, List.map_append]; cases L0 <;> rfl) ?_
      refine ⟨_, rfl, a, C, dy, _, _, rfl, ho1, L.cl, L.nR, fl_r u p, _, rfl, 1, rfl, -1, ((L0.concat j).map fun j => ri (j : Nat)).map Y.d, .d (ri (j : Nat)), rfl, rfl, by rw [List.concat_eq_append, List.map_append, List.map_append]; exact at_last, p, rs.map rqY, (j : Nat), j, rfl, rfl, A1.ls, by omega, by omega, sq_nat (by rw [List.length_map]; exact hjl), ?_⟩
      have A2 : At C (mu m1 p (.lst ((rs.map rqY).eraseIdx j))) a u p (rs.eraseIdx j) := ⟨⟨dy, (mu_ne A1.ne).trans ho1⟩, mu_same.trans (by rw [map_erase])⟩
      have hl2 : (rs.eraseIdx j).length ≤ 5000 := Nat.le_trans (List.length_eraseIdx_le _ _) hl
      have hr : relF sv rs i = some (endF sv (rs.eraseIdx j)) := by unfold relF; rw [hj]; rfl
      have hmu : Mle (mu m p (.lst ((rs.eraseIdx j).map rqY))) (mu m1 p (.lst ((rs.map rqY).eraseIdx j))) := by rw [map_erase]; exact hm1.mu
      obtain ⟨dz, ho2⟩ := A2.ob
      generalize rs.eraseIdx j = r1 at *
      refine ⟨_, rfl, a, dz, _, rfl, ho2, fl_no u p (by decide +kernel) (by decide +kernel), a, u, p, r1, rfl, A2, hl2, fun m3 hm3 => ?_⟩
      have A3 := A2.le hm3
      obtain ⟨dw, ho3⟩ := A3.ob
      refine ⟨_, rfl, _, (show truD _ = _ from rfl), ?_⟩
      cases e1 : sv r1 with
      | nil =>
        refine iteT ?_
        exact hs r1 .none (by rw [hr]; unfold endF; rw [e1]) m3 (hmu.trans hm3)
      | cons k ks =>
        have hk : k < r1.length := V.lt r1 k (by rw [e1]; simp)
        have e2 : r1[k]? = some r1[k] := List.getElem?_eq_getElem hk
        refine iteF ?_
        refine ⟨_, rfl, a, C, dw, _, _, rfl, ho3, L.cl, L.nR, fl_r u p, _, rfl, 0, ((k :: ks).map fun j => ri (j : Nat)).map Y.d, .d (ri (k : Nat)), rfl, rfl, at_zero, (k : Nat), r1.map rqY, rqY r1[k], rfl, .inl A3.ls, at_nat (by rw [List.getElem?_map, e2]; rfl), ?_⟩
        refine tup3 ⟨_, _, rfl, _, _, rfl, _, _, rfl, rfl, ?_⟩
        refine ⟨_, rfl, _, rfl, len3 _ _ _, ?_⟩
        refine ⟨_, rfl, a, C, dw, _, _, rfl, ho3, L.cl, L.nR, fl_r u p, _, rfl, 0, ((k :: ks).map fun j => ri (j : Nat)).map Y.d, .d (ri (k : Nat)), rfl, rfl, at_zero, p, r1.map rqY, (k : Nat), k, rfl, rfl, A3.ls, ix_nat (by rw [List.length_map]; exact hk), _, rfl, ?_⟩
        refine hs (r1.set k { r1[k] with held := true }) (ri r1[k].proc) (by rw [hr]; unfold endF; rw [e1]; simp only [e2]) _ ?_
        rw [List.map_set]
        have h3 := hmu.trans hm3
        have h4 := h3.mu (p := p) (o := .lst ((r1.map rqY).set k (rqY { r1[k] with held := true })))
        rw [mu_mu] at h4
        exact h4
abbrev s_Rholders : Stmt := inClass (top 16) 7
abbrev N_Rholders : List Str := ["self"]
theorem sc_Rholders : SupScope N_Rholders ["self"] (defScope s_Rholders) := ⟨⟨rfl, rfl, rfl, by decide +kernel, rfl, by decide +kernel, by decide +kernel⟩, rfl, by decide +kernel, by decide +kernel, by decide +kernel⟩
theorem ok_Rholders {f : Addr} {fd : FuncData} {cdv : Value} {cc D : Addr} (F : SFun P K "holders" "RankLine.holders" s_Rholders f fd cdv cc D) (T : Txt K mg) {n : Nat} {C : Addr} {g : Addr} {fdg : FuncData} (U_holders : UF P w K mg base C D "holders" n g fdg ["self"] (d_holders C)) : FnD P w K mg base (n + 1) f fd ["self"] (d_holders C) := by
  refine SFun.dok F sc_Rholders _ (fun A outer s H E B hp =>
      dssA_one (dsA_ret (dea_uf0 T.b_super F.sf U_holders B.hr B.gd B.tk (Nat.le_refl _)))) (fun ys m F P h => ?_)
  obtain ⟨a, u, p, rs, rfl, A, hl, h⟩ := h
  obtain ⟨dx, ho⟩ := A.ob
  exact ⟨rfl, a, dx, _, rfl, ho, a, u, p, rs, rfl, A, hl, h⟩
abbrev s_Rfree : Stmt := inClass (top 16) 3
abbrev N_Rfree : List Str := ["self"]
theorem sc_Rfree : FnScope N_Rfree ["self"] (defScope s_Rfree) := ⟨rfl, rfl, rfl, by decide +kernel, rfl, by decide +kernel, by decide +kernel⟩
theorem ok_Rfree {f : Addr} {fd : FuncData} (F : Fun K "free" "RankLine.free" s_Rfree f fd) (T : Txt K mg) {C : Addr} (L : Lin K C) {f1 : Addr} {fd1 : FuncData} (M_holders : MF P w K mg base C "holders" 3 f1 fd1 ["self"] (d_holders C)) : FnD P w K mg base 4 f fd ["self"] (d_free C) := by
  refine Dl.Fun.dok F sc_Rfree _ (fun cdv A outer s H E B hp =>
      (dss_one (ds_ret (de_op opd_sub (kfld K (de_var (pv 0))) (de_cb cd_len rfl T.b_len boot_len (da_cons (de_mf0 (de_var (pv 0)) M_holders B.hr B.gd B.tk) da_nil)))))) (fun ys m F P h => ?_)
  obtain ⟨a, u, p, rs, rfl, A, hl, h⟩ := h
  obtain ⟨dx, ho⟩ := A.ob
  refine ⟨rfl, _, rfl, a, C, dx, _, _, rfl, ho, L.cl, L.nU, fl_u u p, _, rfl, a, dx, _, rfl, ho, fl_no u p (by decide +kernel) (by decide +kernel), a, u, p, rs, rfl, A, hl, fun m' hm' => ?_⟩
  refine ⟨_, (heldL rs).map Y.d, rfl, .inr rfl, ?_⟩
  rw [List.length_map, heldL_len]
  exact h m' hm'
abbrev s_Rserved : Stmt := inClass (top 16) 10
abbrev N_Rserved : List Str := ["self", "places", "pair", "at"]
theorem sc_Rserved : SupScope N_Rserved ["self"] (defScope s_Rserved) := ⟨⟨rfl, rfl, rfl, by decide +kernel, rfl, by decide +kernel, by decide +kernel⟩, rfl, by decide +kernel, by decide +kernel, by decide +kernel⟩
def hRk (rs : List Rq) : Y → Option Y
  | .d (.int i) => rs[i.toNat]?.map fun q => .d (prD (q.rank, i))
  | _ => none
theorem hRk_all (rs : List Rq) : (((sv0 rs).map fun i => ri (i : Nat)).map Y.d).filterMap (hRk rs) = ((wPairs 1 rs).map prD).map Y.d := by
  unfold sv0 wPairs
  rw [List.map_map, List.filterMap_map, List.filterMap_filterMap, List.map_map, List.map_filterMap]
  refine fm_congr fun p hp => ?_
  obtain ⟨r, n⟩ := p
  have hx := List.mem_zipIdx hp
  have e : rs[n]? = some r := by
    rw [List.getElem?_eq_getElem (by omega)]
    have := hx.2.2
    simp at this
    exact congrArg some this.symm
  cases h : r.held with
  | true => simp [h]
  | false =>
    simp only [h, Bool.false_eq_true, if_false, Option.bind_some, Function.comp, hRk, Int.toNat_natCast, e, Option.map_some, Int.mul_one]
def hSnd : Y → Option Y
  | .d (.tuple [_, x]) => some (.d x)
  | _ => none
theorem hSnd_all (rs : List Rq) : (((srt (wPairs 1 rs)).map prD).map Y.d).filterMap hSnd = ((svR 1 rs).map fun i => ri (i : Nat)).map Y.d := by
  unfold svR
  have h : ∀ ps : List (Int × Int), (∀ p ∈ ps, 0 ≤ p.2) → ((ps.map prD).map Y.d).filterMap hSnd = ((ps.map fun p => p.2.toNat).map fun i => ri (i : Nat)).map Y.d := by
    intro ps
    induction ps with
    | nil => intro _; rfl
    | cons p ps ih =>
      intro hp
      have h1 := hp p (by simp)
      rw [List.map_cons, List.map_cons, List.map_cons, List.map_cons, List.map_cons, List.filterMap_cons]
      show Y.d (ri p.2) :: _ = _
      rw [ih fun x hx => hp x (by simp [hx])]
      rw [show ((p.2.toNat : Nat) : Int) = p.2 by omega]
  refine h _ fun p hp => ?_
  obtain ⟨n, e, _⟩ := wPairs_lt (srt_mem hp)
  rw [e]
  exact Int.natCast_nonneg n
theorem ok_Rserved {f : Addr} {fd : FuncData} {cdv : Value} {cc D : Addr} (F : SFun P K "_served" "RankLine._served" s_Rserved f fd cdv cc D) (T : Txt K mg) {n : Nat} {C : Addr} (L : Lin K C) {g : Addr} {fdg : FuncData} (U_served : UF P w K mg base C D "_served" n g fdg ["self"] (d_served C sv0)) : FnD P w K mg base (n + 1) f fd ["self"] (d_served C (svR 1)) := by
  refine SFun.dok F sc_Rserved _ (fun A outer s H E B hp =>
      dssA_cons (dsA_set (i := 1) sc_Rserved.fs.nd rfl (by first | exact Or.inl rfl | exact Or.inr rfl) (dea_uf0 T.b_super F.sf U_served B.hr B.gd B.tk (Nat.le_refl _)))
      (dss_one (ds_ret (de_lc (fin := finD) finD_ok rfl sc_Rserved.fs.nd (di_seq (de_cb cd_sorted rfl T.b_sorted boot_sorted (da_cons (de_lc (fin := finD) finD_ok rfl sc_Rserved.fs.nd (di_seq (de_var (pv 1))) (blkOk_by (own := [("at", 3)]) (N := N_Rserved) (sc := defScope s_Rserved) (by decide +kernel)) (fun _ _ _ _ _ => pg_name (i := 3) sc_Rserved.fs.nd rfl (by first | exact Or.inl rfl | exact Or.inr rfl)) (dgw_name (i := 3) (by decide)) (fun _ _ _ _ _ => dts_nil) (fun _ _ _ _ _ => de_tup (da_cons (de_ix (de_ix (kfld K (de_var (pv 0))) (de_var (pv 3)) (by intro _ _; rfl)) (de_int) (by intro _ _; rfl)) (da_cons (de_var (pv 3)) da_nil)))) da_nil))) (blkOk_by (own := [("pair", 2)]) (N := N_Rserved) (sc := defScope s_Rserved) (by decide +kernel)) (fun _ _ _ _ _ => pg_name (i := 2) sc_Rserved.fs.nd rfl (by first | exact Or.inl rfl | exact Or.inr rfl)) (dgw_name (i := 2) (by decide)) (fun _ _ _ _ _ => dts_nil) (fun _ _ _ _ _ => de_ix (de_var (pv 2)) (de_int) (by intro _ _; rfl)))))) (fun ys m F P h => ?_)
  obtain ⟨a, u, p, rs, rfl, A, hl, h⟩ := h
  obtain ⟨dx, ho⟩ := A.ob
  refine ⟨rfl, a, dx, _, rfl, ho, a, u, p, rs, rfl, A, hl, fun m1 hm1 => ?_⟩
  refine ⟨_, rfl, ((sv0 rs).map fun i => ri (i : Nat)).map Y.d, rfl, ?_⟩
  refine lc_seq (hRk rs) (by rw [List.length_map, List.length_map]; exact Nat.le_trans (sv_sv0.len rs) (by omega)) (fun q e => by cases e) (fun z M hz hM C' N' hC hN => ?_) (fun D' M hD hM => ?_)
  · obtain ⟨_, hz1, rfl⟩ := List.mem_map.mp hz
    obtain ⟨i, hi, rfl⟩ := List.mem_map.mp hz1
    have hlt := sv_sv0.lt rs i hi
    have A1 := (A.le hm1).le hM
    obtain ⟨dy, ho1⟩ := A1.ob
    have e1 : rs[i]? = some rs[i] := List.getElem?_eq_getElem hlt
    refine iteT ⟨_, rfl, a, C, dy, _, _, rfl, ho1, L.cl, L.nR, fl_r u p, _, rfl, (i : Nat), rs.map rqY, rqY rs[i], rfl, .inl A1.ls, at_nat (by rw [List.getElem?_map, e1]; rfl), 0, _, .d (ri rs[i].rank), rfl, rfl, at_zero, _, rfl, len2 _ _, hC _ M ?_ Mle.refl⟩
    show (rs[((i : Nat) : Int).toNat]?).map _ = _
    rw [Int.toNat_natCast, e1]
    rfl
  · rw [hRk_all] at hM ⊢
    refine fin_d _ rfl hD hM fun m2 hm2 => ?_
    refine ⟨wPairs 1 rs, rfl, ((srt (wPairs 1 rs)).map prD).map Y.d, rfl, ?_⟩
    refine lc_seq hSnd (by rw [List.length_map, List.length_map, srt_len]; exact Nat.le_trans (wPairs_len 1 rs) (by omega)) (fun q e => by cases e) (fun z M2 hz hM2 C' N' hC hN => ?_) (fun D2 M2 hD2 hM2 => ?_)
    · obtain ⟨_, hz1, rfl⟩ := List.mem_map.mp hz
      obtain ⟨pp, hpp, rfl⟩ := List.mem_map.mp hz1
      exact iteT ⟨_, rfl, 1, _, .d (ri pp.2), rfl, rfl, at_nat (n := 1) rfl, hC _ M2 rfl Mle.refl⟩
    · rw [hSnd_all] at hM2 ⊢
      exact fin_d _ rfl hD2 hM2 fun m3 hm3 => h m3 ((hm1.trans hm2).trans hm3)
abbrev s_Rwaiting : Stmt := inClass (top 16) 8
abbrev N_Rwaiting : List Str := ["self"]
theorem sc_Rwaiting : SupScope N_Rwaiting ["self"] (defScope s_Rwaiting) := ⟨⟨rfl, rfl, rfl, by decide +kernel, rfl, by decide +kernel, by decide +kernel⟩, rfl, by decide +kernel, by decide +kernel, by decide +kernel⟩
theorem ok_Rwaiting {f : Addr} {fd : FuncData} {cdv : Value} {cc D : Addr} (F : SFun P K "waiting" "RankLine.waiting" s_Rwaiting f fd cdv cc D) (T : Txt K mg) {n : Nat} {C : Addr} {g : Addr} {fdg : FuncData} {sv : List Rq → List Nat} (U_waiting : UF P w K mg base C D "waiting" n g fdg ["self"] (d_waiting C sv)) : FnD P w K mg base (n + 1) f fd ["self"] (d_waiting C sv) := by
  refine SFun.dok F sc_Rwaiting _ (fun A outer s H E B hp =>
      dssA_one (dsA_ret (dea_uf0 T.b_super F.sf U_waiting B.hr B.gd B.tk (Nat.le_refl _)))) (fun ys m F P h => ?_)
  obtain ⟨a, u, p, rs, rfl, A, hl, h⟩ := h
  obtain ⟨dx, ho⟩ := A.ob
  exact ⟨rfl, a, dx, _, rfl, ho, a, u, p, rs, rfl, A, hl, h⟩
abbrev s_Rlength : Stmt := inClass (top 16) 4
abbrev N_Rlength : List Str := ["self"]
theorem sc_Rlength : FnScope N_Rlength ["self"] (defScope s_Rlength) := ⟨rfl, rfl, rfl, by decide +kernel, rfl, by decide +kernel, by decide +kernel⟩
theorem ok_Rlength {f : Addr} {fd : FuncData} (F : Fun K "length" "RankLine.length" s_Rlength f fd) (T : Txt K mg) {C : Addr} {sv : List Rq → List Nat} (V : Sv sv) (L : Lin K C) {f1 : Addr} {fd1 : FuncData} (M_waiting : MF P w K mg base C "waiting" 5 f1 fd1 ["self"] (d_waiting C sv)) : FnD P w K mg base 6 f fd ["self"] (d_length C sv) := by
  refine Dl.Fun.dok F sc_Rlength _ (fun cdv A outer s H E B hp =>
      (dss_one (ds_ret (de_cb cd_len rfl T.b_len boot_len (da_cons (de_mf0 (de_var (pv 0)) M_waiting B.hr B.gd B.tk) da_nil))))) (fun ys m F P h => ?_)
  obtain ⟨a, u, p, rs, rfl, A, hl, h⟩ := h
  obtain ⟨dx, ho⟩ := A.ob
  refine ⟨rfl, _, rfl, a, dx, _, rfl, ho, fl_no u p (by decide +kernel) (by decide +kernel), a, u, p, rs, rfl, A, hl, fun m' hm' => ?_⟩
  refine ⟨_, (waitL sv rs).map Y.d, rfl, .inr rfl, ?_⟩
  rw [List.length_map]
  exact h m' hm'
abbrev s_Rrequest : Stmt := inClass (top 16) 5
abbrev N_Rrequest : List Str := ["self", "process", "rank"]
theorem sc_Rrequest : SupScope N_Rrequest ["self", "process", "rank"] (defScope s_Rrequest) := ⟨⟨rfl, rfl, rfl, by decide +kernel, rfl, by decide +kernel, by decide +kernel⟩, rfl, by decide +kernel, by decide +kernel, by decide +kernel⟩
theorem ok_Rrequest {f : Addr} {fd : FuncData} {cdv : Value} {cc D : Addr} (F : SFun P K "request" "RankLine.request" s_Rrequest f fd cdv cc D) (T : Txt K mg) {n : Nat} {C : Addr} {g : Addr} {fdg : FuncData} (U_request : UF P w K mg base C D "request" n g fdg ["self", "process", "rank"] (d_request C)) : FnD P w K mg base (n + 1) f fd ["self", "process", "rank"] (d_request C) := by
  refine SFun.dok F sc_Rrequest _ (fun A outer s H E B hp =>
      dssA_one (dsA_ret (dea_uf T.b_super F.sf U_request B.hr B.gd B.tk (da_cons (de_var (pv 1)) (da_cons (de_var (pv 2)) da_nil)) (Nat.le_refl _)))) (fun ys m F P h => ?_)
  obtain ⟨a, u, p, rs, i, k, rfl, i0, i5, k0, k9, A, hl, h⟩ := h
  obtain ⟨dx, ho⟩ := A.ob
  exact ⟨rfl, a, dx, _, rfl, ho, _, rfl, _, rfl, a, u, p, rs, i, k, rfl, i0, i5, k0, k9, A, hl, h⟩
abbrev s_Rrelease : Stmt := inClass (top 16) 6
abbrev N_Rrelease : List Str := ["self", "process"]
theorem sc_Rrelease : SupScope N_Rrelease ["self", "process"] (defScope s_Rrelease) := ⟨⟨rfl, rfl, rfl, by decide +kernel, rfl, by decide +kernel, by decide +kernel⟩, rfl, by decide +kernel, by decide +kernel, by decide +kernel⟩
theorem ok_Rrelease {f : Addr} {fd : FuncData} {cdv : Value} {cc D : Addr} (F : SFun P K "release" "RankLine.release" s_Rrelease f fd cdv cc D) (T : Txt K mg) {n : Nat} {C E0 : Addr} {g : Addr} {fdg : FuncData} {sv : List Rq → List Nat} (U_release : UF P w K mg base C D "release" n g fdg ["self", "process"] (d_release C E0 sv)) : FnD P w K mg base (n + 1) f fd ["self", "process"] (d_release C E0 sv) := by
  refine SFun.dok F sc_Rrelease _ (fun A outer s H E B hp =>
      dssA_one (dsA_ret (dea_uf T.b_super F.sf U_release B.hr B.gd B.tk (da_cons (de_var (pv 1)) da_nil) (Nat.le_refl _)))) (fun ys m F P h => ?_)
  obtain ⟨a, u, p, rs, i, rfl, i0, i5, A, hl, h⟩ := h
  obtain ⟨dx, ho⟩ := A.ob
  exact ⟨rfl, a, dx, _, rfl, ho, _, rfl, a, u, p, rs, i, rfl, i0, i5, A, hl, h⟩
abbrev s_Pholders : Stmt := inClass (top 17) 7
abbrev N_Pholders : List Str := ["self"]
theorem sc_Pholders : SupScope N_Pholders ["self"] (defScope s_Pholders) := ⟨⟨rfl, rfl, rfl, by decide +kernel, rfl, by decide +kernel, by decide +kernel⟩, rfl, by decide +kernel, by decide +kernel, by decide +kernel⟩
theorem ok_Pholders {f : Addr} {fd : FuncData} {cdv : Value} {cc D : Addr} (F : SFun P K "holders" "PreemptLine.holders" s_Pholders f fd cdv cc D) (T : Txt K mg) {n : Nat} {C : Addr} {g : Addr} {fdg : FuncData} (U_holders : UF P w K mg base C D "holders" n g fdg ["self"] (d_holders C)) : FnD P w K mg base (n + 1) f fd ["self"] (d_holders C) := by
  refine SFun.dok F sc_Pholders _ (fun A outer s H E B hp =>
      dssA_one (dsA_ret (dea_uf0 T.b_super F.sf U_holders B.hr B.gd B.tk (Nat.le_refl _)))) (fun ys m F P h => ?_)
  obtain ⟨a, u, p, rs, rfl, A, hl, h⟩ := h
  obtain ⟨dx, ho⟩ := A.ob
  exact ⟨rfl, a, dx, _, rfl, ho, a, u, p, rs, rfl, A, hl, h⟩
abbrev s_Pfree : Stmt := inClass (top 17) 3
abbrev N_Pfree : List Str := ["self"]
theorem sc_Pfree : FnScope N_Pfree ["self"] (defScope s_Pfree) := ⟨rfl, rfl, rfl, by decide +kernel, rfl, by decide +kernel, by decide +kernel⟩
theorem ok_Pfree {f : Addr} {fd : FuncData} (F : Fun K "free" "PreemptLine.free" s_Pfree f fd) (T : Txt K mg) {C : Addr} (L : Lin K C) {f1 : Addr} {fd1 : FuncData} (M_holders : MF P w K mg base C "holders" 3 f1 fd1 ["self"] (d_holders C)) : FnD P w K mg base 4 f fd ["self"] (d_free C) := by
  refine Dl.Fun.dok F sc_Pfree _ (fun cdv A outer s H E B hp =>
      (dss_one (ds_ret (de_op opd_sub (kfld K (de_var (pv 0))) (de_cb cd_len rfl T.b_len boot_len (da_cons (de_mf0 (de_var (pv 0)) M_holders B.hr B.gd B.tk) da_nil)))))) (fun ys m F P h => ?_)
  obtain ⟨a, u, p, rs, rfl, A, hl, h⟩ := h
  obtain ⟨dx, ho⟩ := A.ob
  refine ⟨rfl, _, rfl, a, C, dx, _, _, rfl, ho, L.cl, L.nU, fl_u u p, _, rfl, a, dx, _, rfl, ho, fl_no u p (by decide +kernel) (by decide +kernel), a, u, p, rs, rfl, A, hl, fun m' hm' => ?_⟩
  refine ⟨_, (heldL rs).map Y.d, rfl, .inr rfl, ?_⟩
  rw [List.length_map, heldL_len]
  exact h m' hm'
abbrev s_Pwaiting : Stmt := inClass (top 17) 8
abbrev N_Pwaiting : List Str := ["self"]
theorem sc_Pwaiting : SupScope N_Pwaiting ["self"] (defScope s_Pwaiting) := ⟨⟨rfl, rfl, rfl, by decide +kernel, rfl, by decide +kernel, by decide +kernel⟩, rfl, by decide +kernel, by decide +kernel, by decide +kernel⟩
theorem ok_Pwaiting {f : Addr} {fd : FuncData} {cdv : Value} {cc D : Addr} (F : SFun P K "waiting" "PreemptLine.waiting" s_Pwaiting f fd cdv cc D) (T : Txt K mg) {n : Nat} {C : Addr} {g : Addr} {fdg : FuncData} {sv : List Rq → List Nat} (U_waiting : UF P w K mg base C D "waiting" n g fdg ["self"] (d_waiting C sv)) : FnD P w K mg base (n + 1) f fd ["self"] (d_waiting C sv) := by
  refine SFun.dok F sc_Pwaiting _ (fun A outer s H E B hp =>
      dssA_one (dsA_ret (dea_uf0 T.b_super F.sf U_waiting B.hr B.gd B.tk (Nat.le_refl _)))) (fun ys m F P h => ?_)
  obtain ⟨a, u, p, rs, rfl, A, hl, h⟩ := h
  obtain ⟨dx, ho⟩ := A.ob
  exact ⟨rfl, a, dx, _, rfl, ho, a, u, p, rs, rfl, A, hl, h⟩
abbrev s_Plength : Stmt := inClass (top 17) 4
abbrev N_Plength : List Str := ["self"]
theorem sc_Plength : FnScope N_Plength ["self"] (defScope s_Plength) := ⟨rfl, rfl, rfl, by decide +kernel, rfl, by decide +kernel, by decide +kernel⟩
theorem ok_Plength {f : Addr} {fd : FuncData} (F : Fun K "length" "PreemptLine.length" s_Plength f fd) (T : Txt K mg) {C : Addr} {sv : List Rq → List Nat} (V : Sv sv) (L : Lin K C) {f1 : Addr} {fd1 : FuncData} (M_waiting : MF P w K mg base C "waiting" 5 f1 fd1 ["self"] (d_waiting C sv)) : FnD P w K mg base 6 f fd ["self"] (d_length C sv) := by
  refine Dl.Fun.dok F sc_Plength _ (fun cdv A outer s H E B hp =>
      (dss_one (ds_ret (de_cb cd_len rfl T.b_len boot_len (da_cons (de_mf0 (de_var (pv 0)) M_waiting B.hr B.gd B.tk) da_nil))))) (fun ys m F P h => ?_)
  obtain ⟨a, u, p, rs, rfl, A, hl, h⟩ := h
  obtain ⟨dx, ho⟩ := A.ob
  refine ⟨rfl, _, rfl, a, dx, _, rfl, ho, fl_no u p (by decide +kernel) (by decide +kernel), a, u, p, rs, rfl, A, hl, fun m' hm' => ?_⟩
  refine ⟨_, (waitL sv rs).map Y.d, rfl, .inr rfl, ?_⟩
  rw [List.length_map]
  exact h m' hm'
abbrev s_Prepr : Stmt := inClass (top 17) 2
abbrev N_Prepr : List Str := ["self"]
theorem sc_Prepr : FnScope N_Prepr ["self"] (defScope s_Prepr) := ⟨rfl, rfl, rfl, by decide +kernel, rfl, by decide +kernel, by decide +kernel⟩
theorem ok_Prepr {f : Addr} {fd : FuncData} (F : Fun K "__repr__" "PreemptLine.__repr__" s_Prepr f fd) (T : Txt K mg) {C : Addr} {sv : List Rq → List Nat} (L : Lin K C) {f1 p1 : Addr} {fd1 : FuncData} (P_length : PF P w K mg base C "length" 6 p1 f1 fd1 ["self"] (d_length C sv)) : FnD P w K mg base 8 f fd ["self"] (d_repr C sv "PreemptLine(") := by
  refine Dl.Fun.dok F sc_Prepr _ (fun cdv A outer s H E B hp =>
      (dss_one (ds_ret (de_fstr (.str (.fmt (kfld K (de_var (pv 0))) (.str (.fmt (de_pf (de_var (pv 0)) P_length B.hr B.gd) (.str .nil))))))))) (fun ys m F P h => ?_)
  obtain ⟨a, u, p, rs, rfl, A, hl, hu, hw, h⟩ := h
  obtain ⟨dx, ho⟩ := A.ob
  have hf := fmt_i (log_small (i := u) (Nat.lt_of_le_of_lt (show u.natAbs ≤ 5 by omega) (by decide +kernel)))
  have hf2 := fmt_i (log_small (i := ((waitL sv rs).length : Int)) (Nat.lt_of_le_of_lt (show (((waitL sv rs).length : Nat) : Int).natAbs ≤ 5000 by omega) (by decide +kernel)))
  have hz := fmt_len hf
  have hz2 := fmt_len hf2
  have z1 : (Str.empty ++ Str.ofString "PreemptLine(").length = 12 := by decide +kernel
  have z2 : (Str.ofString " units, ").length = 8 := by decide +kernel
  have z3 : (Str.ofString " waiting)").length = 9 := by decide +kernel
  refine ⟨rfl, _, fmt_s (by decide +kernel), by decide +kernel, _, rfl, a, C, dx, _, _, rfl, ho, L.cl, L.nU, fl_u u p, _, hf, by rw [str_app, z1]; omega, _, fmt_s (by decide +kernel), by rw [str_app, str_app, z1, z2]; omega, ?_⟩
  refine ⟨_, rfl, a, dx, _, rfl, ho, a, u, p, rs, rfl, A, hl, fun m' hm' => ?_⟩
  exact ⟨_, hf2, by rw [str_app, str_app, str_app, z1, z2]; omega, _, fmt_s (by decide +kernel), by rw [str_app, str_app, str_app, str_app, z1, z2, z3]; omega, h m' hm'⟩
abbrev s_Prequest : Stmt := inClass (top 17) 5
abbrev N_Prequest : List Str := ["self", "process", "rank"]
theorem sc_Prequest : SupScope N_Prequest ["self", "process", "rank"] (defScope s_Prequest) := ⟨⟨rfl, rfl, rfl, by decide +kernel, rfl, by decide +kernel, by decide +kernel⟩, rfl, by decide +kernel, by decide +kernel, by decide +kernel⟩
theorem ok_Prequest {f : Addr} {fd : FuncData} {cdv : Value} {cc D : Addr} (F : SFun P K "request" "PreemptLine.request" s_Prequest f fd cdv cc D) (T : Txt K mg) {n : Nat} {C : Addr} {g : Addr} {fdg : FuncData} (U_request : UF P w K mg base C D "request" n g fdg ["self", "process", "rank"] (d_request C)) : FnD P w K mg base (n + 1) f fd ["self", "process", "rank"] (d_request C) := by
  refine SFun.dok F sc_Prequest _ (fun A outer s H E B hp =>
      dssA_one (dsA_ret (dea_uf T.b_super F.sf U_request B.hr B.gd B.tk (da_cons (de_var (pv 1)) (da_cons (de_var (pv 2)) da_nil)) (Nat.le_refl _)))) (fun ys m F P h => ?_)
  obtain ⟨a, u, p, rs, i, k, rfl, i0, i5, k0, k9, A, hl, h⟩ := h
  obtain ⟨dx, ho⟩ := A.ob
  exact ⟨rfl, a, dx, _, rfl, ho, _, rfl, _, rfl, a, u, p, rs, i, k, rfl, i0, i5, k0, k9, A, hl, h⟩
abbrev s_Prelease : Stmt := inClass (top 17) 6
abbrev N_Prelease : List Str := ["self", "process"]
theorem sc_Prelease : SupScope N_Prelease ["self", "process"] (defScope s_Prelease) := ⟨⟨rfl, rfl, rfl, by decide +kernel, rfl, by decide +kernel, by decide +kernel⟩, rfl, by decide +kernel, by decide +kernel, by decide +kernel⟩
theorem ok_Prelease {f : Addr} {fd : FuncData} {cdv : Value} {cc D : Addr} (F : SFun P K "release" "PreemptLine.release" s_Prelease f fd cdv cc D) (T : Txt K mg) {n : Nat} {C E0 : Addr} {g : Addr} {fdg : FuncData} {sv : List Rq → List Nat} (U_release : UF P w K mg base C D "release" n g fdg ["self", "process"] (d_release C E0 sv)) : FnD P w K mg base (n + 1) f fd ["self", "process"] (d_release C E0 sv) := by
  refine SFun.dok F sc_Prelease _ (fun A outer s H E B hp =>
      dssA_one (dsA_ret (dea_uf T.b_super F.sf U_release B.hr B.gd B.tk (da_cons (de_var (pv 1)) da_nil) (Nat.le_refl _)))) (fun ys m F P h => ?_)
  obtain ⟨a, u, p, rs, i, rfl, i0, i5, A, hl, h⟩ := h
  obtain ⟨dx, ho⟩ := A.ob
  exact ⟨rfl, a, dx, _, rfl, ho, _, rfl, a, u, p, rs, i, rfl, i0, i5, A, hl, h⟩
abbrev s_Pvictim : Stmt := inClass (top 17) 11
abbrev N_Pvictim : List Str := ["self", "rank", "victims", "places", "at", "held_rank", "owner", "holds"]
theorem sc_Pvictim : FnScope N_Pvictim ["self", "rank", "victims"] (defScope s_Pvictim) := ⟨rfl, rfl, rfl, by decide +kernel, rfl, by decide +kernel, by decide +kernel⟩
/-- the requests that may lose their unit, as (rank, place) -/
def vicL (rs : List Rq) (k : Int) (vs : List Int) : List (Int × Int) := rs.zipIdx.filterMap fun p => if (p.1.held && (decide (k < p.1.rank) && decide (p.1.proc ∈ vs))) = true then some (p.1.rank, (p.2 : Int)) else none
def vicD (rs : List Rq) (k : Int) (vs : List Int) : PyData := match vicL rs k vs with
  | [] => .none
  | p :: ps => ri (mxP p ps).2
theorem vicL_lt {rs : List Rq} {k : Int} {vs : List Int} {p : Int × Int} (h : p ∈ vicL rs k vs) : ∃ n : Nat, p.2 = (n : Int) ∧ n < rs.length := by
  obtain ⟨⟨r, n⟩, h1, h2⟩ := List.mem_filterMap.mp h
  split at h2
  · cases h2
    refine ⟨n, rfl, ?_⟩
    have := (List.mem_zipIdx h1).2.1
    omega
  · cases h2
def hVic (k : Int) (vs : List Int) (j : Nat) : Y → Option Y
  | .d (.tuple [.int r, .int o, .bool b]) => if (b && (decide (k < r) && decide (o ∈ vs))) = true then some (.d (prD (r, (j : Int)))) else none
  | _ => none
theorem hVic_all (k : Int) (vs : List Int) (rs : List Rq) : (rs.map rqY).zipIdx.filterMap (fun p => hVic k vs p.2 p.1) = ((vicL rs k vs).map prD).map Y.d := by
  unfold vicL
  rw [List.zipIdx_map, List.filterMap_map, List.map_map, List.map_filterMap]
  congr 1
  funext p
  obtain ⟨⟨r, o, b⟩, n⟩ := p
  show (if (b && (decide (k < r) && decide (o ∈ vs))) = true then _ else _) = Option.map _ (if (b && (decide (k < r) && decide (o ∈ vs))) = true then _ else none)
  split <;> rfl
def d_Pvictim (C : Addr) : DSp := fun ys m F _ => ∃ a u p rs k vs, ys = [.l a, .d (.int k), .d (.tuple (vs.map ri))] ∧ At C m a u p rs ∧ rs.length ≤ 5000 ∧ ∀ m', Mle m m' → F (.d (vicD rs k vs)) m'
theorem ok_Pvictim {f : Addr} {fd : FuncData} (F : Fun K "_victim" "PreemptLine._victim" s_Pvictim f fd) (T : Txt K mg) {C : Addr} (L : Lin K C) : FnD P w K mg base 1 f fd ["self", "rank", "victims"] (d_Pvictim C) := by
  refine Dl.Fun.dok F sc_Pvictim _ (fun cdv A outer s H E B hp =>
      (dss_cons (ds_setLc (i := 3) (fin := finD) finD_ok rfl sc_Pvictim.nd rfl rfl (sw_true rfl rfl rfl (by decide +kernel)) (di_enum rfl T.b_enumerate (da_cons (kfld K (de_var (pv 0))) da_nil)) (blkOk_by (own := [("at", 4), ("held_rank", 5), ("owner", 6), ("holds", 7)]) (N := N_Pvictim) (sc := defScope s_Pvictim) (by decide +kernel)) (fun _ _ _ _ _ => pg_tup (n := 2) rfl (pgs_cons (pg_name (i := 4) sc_Pvictim.nd rfl (by first | exact Or.inl rfl | exact Or.inr rfl)) (pgs_cons (pg_tup (n := 3) rfl (pgs_cons (pg_name (i := 5) sc_Pvictim.nd rfl (by first | exact Or.inl rfl | exact Or.inr rfl)) (pgs_cons (pg_name (i := 6) sc_Pvictim.nd rfl (by first | exact Or.inl rfl | exact Or.inr rfl)) (pgs_cons (pg_name (i := 7) sc_Pvictim.nd rfl (by first | exact Or.inl rfl | exact Or.inr rfl)) pgs_nil)))) pgs_nil))) (dgw_tup (n := 2) (dgw_cons (dgw_name (i := 4) (by decide)) (dgw_cons (dgw_tup (n := 3) (dgw_cons (dgw_name (i := 5) (by decide)) (dgw_cons (dgw_name (i := 6) (by decide)) (dgw_cons (dgw_name (i := 7) (by decide)) dgw_nil)))) dgw_nil))) (fun _ _ _ _ _ => dts_one (DW.dt (dw_and (dt_tru (de_var (pv 7))) (dw_and (dt_cmp opd_gt (de_var (pv 5)) (de_var (pv 1)) (nomark _)) (dw_and1 (dt_cmp opd_in (de_var (pv 6)) (de_var (pv 2)) (by rfl))))))) (fun _ _ _ _ _ => de_tup (da_cons (de_var (pv 5)) (da_cons (de_var (pv 4)) da_nil))))
      (dss_one (ds_ret (de_if (dt_tru (de_var (pv 3))) (de_ix (de_cb (cd_maxP rfl (Dl.Room.u64 B.hr)) rfl T.b_max boot_max (da_cons (de_var (pv 3)) da_nil)) (de_int) (by intro _ _; rfl)) (de_non)))))) (fun ys m F P h => ?_)
  obtain ⟨a, u, p, rs, k, vs, rfl, A, hl, h⟩ := h
  obtain ⟨dx, ho⟩ := A.ob
  refine ⟨rfl, _, rfl, a, C, dx, _, _, rfl, ho, L.cl, L.nR, fl_r u p, _, rs.map rqY, rfl, A.ls, ?_⟩
  refine lc_enum (hVic k vs) (by rw [List.length_map]; omega) (fun q e => by cases e; rw [A.ls]; exact Option.some_ne_none _) (fun j z M hz hM C' N' hC hN => ?_) (fun D M hD hM => ?_)
  · obtain ⟨q, _, rfl⟩ := List.mem_map.mp (List.mem_of_getElem? hz)
    obtain ⟨r, o, b⟩ := q
    refine tup2 (.inl ⟨_, _, rfl, rfl, rfl⟩) ⟨_, _, rfl, _, _, rfl, tup3 ⟨_, _, rfl, _, _, rfl, _, _, rfl, rfl, rfl, _, rfl, b, tru_b b, ?_⟩⟩
    cases b with
    | false => exact iteF (hN M rfl Mle.refl)
    | true =>
      refine iteT ⟨_, rfl, _, rfl, _, rfl, iteD (fun h1 => ?_) (fun h1 => hN M (if_neg (by simp [h1])) Mle.refl)⟩
      refine ⟨_, rfl, _, rfl, .int o, vs.map ri, rfl, rfl, rfl, flat_ints vs, _, rfl, ?_⟩
      rw [inD_int]
      refine iteD (fun h2 => ?_) (fun h2 => hN M (if_neg (by simp [h2])) Mle.refl)
      exact ⟨_, rfl, _, rfl, len2 _ _, hC _ M (if_pos (by simp [h1, h2])) Mle.refl⟩
  · rw [hVic_all] at hM ⊢
    refine fin_d _ rfl hD hM fun m1 hm1 => ?_
    unfold vicD at h
    cases e : vicL rs k vs with
    | nil =>
      rw [e] at h
      exact ⟨_, rfl, _, (show truD _ = _ from rfl), iteF (h m1 hm1)⟩
    | cons q qs =>
      rw [e] at h
      refine ⟨_, rfl, _, (show truD _ = _ from rfl), iteT ⟨_, rfl, q, qs, rfl, 1, _, .d (ri (mxP q qs).2), rfl, rfl, at_nat (n := 1) rfl, h m1 hm1⟩⟩
abbrev s_Ppreempt : Stmt := inClass (top 17) 9
abbrev N_Ppreempt : List Str := ["self", "process", "rank", "victims", "at", "lost_rank", "victim", "_"]
theorem sc_Ppreempt : FnScope N_Ppreempt ["self", "process", "rank", "victims"] (defScope s_Ppreempt) := ⟨rfl, rfl, rfl, by decide +kernel, rfl, by decide +kernel, by decide +kernel⟩
/-- what preempt makes of the requests, and whose unit is lost -/
def preF (u : Int) (rs : List Rq) (i k : Int) (vs : List Int) : Option (List Rq × Int) := if 0 < u - (heldN rs : Int) then none else match vicL rs k vs with
  | [] => none
  | p :: ps => (rs[(mxP p ps).2.toNat]?).map fun q => (rs.set (mxP p ps).2.toNat { q with held := false } ++ [⟨k, i, true⟩], q.proc)
def d_Ppreempt (C : Addr) : DSp := fun ys m F _ => ∃ a u p rs i k vs, ys = [.l a, .d (.int i), .d (.int k), .d (.tuple (vs.map ri))] ∧ 0 ≤ i ∧ i ≤ 5 ∧ 0 ≤ k ∧ k ≤ 9 ∧ (∀ v ∈ vs, 0 ≤ v ∧ v ≤ 5) ∧ At C m a u p rs ∧ rs.length ≤ 5000 ∧
  (preF u rs i k vs = none → ∀ m', Mle m m' → F (.d .none) m') ∧ (∀ rs' v, preF u rs i k vs = some (rs', v) → ∀ m', Mle (mu m p (.lst (rs'.map rqY))) m' → F (.d (.int v)) m')
theorem ok_Ppreempt {f : Addr} {fd : FuncData} (F : Fun K "preempt" "PreemptLine.preempt" s_Ppreempt f fd) (T : Txt K mg) {C : Addr} (L : Lin K C) {f1 f2 f3 f4 f5 p4 : Addr} {fd1 fd2 fd3 fd4 fd5 : FuncData} (G_check_process : GF P w K mg base "_check_process" 3 f1 fd1 ["process"] d_check_process) (G_check_rank : GF P w K mg base "_check_rank" 3 f2 fd2 ["rank"] d_check_rank) (G_check_victims : GF P w K mg base "_check_victims" 4 f3 fd3 ["victims"] d_check_victims) (P_free : PF P w K mg base C "free" 4 p4 f4 fd4 ["self"] (d_free C)) (M_victim : MF P w K mg base C "_victim" 1 f5 fd5 ["self", "rank", "victims"] (d_Pvictim C)) : FnD P w K mg base 6 f fd ["self", "process", "rank", "victims"] (d_Ppreempt C) := by
  refine Dl.Fun.dok F sc_Ppreempt _ (fun cdv A outer s H E B hp =>
      (dss_cons (ds_expr (de_gf G_check_process B.hr B.gd B.tk rfl (da_cons (de_var (pv 1)) da_nil)))
      (dss_cons (ds_expr (de_gf G_check_rank B.hr B.gd B.tk rfl (da_cons (de_var (pv 2)) da_nil)))
      (dss_cons (ds_expr (de_gf G_check_victims B.hr B.gd B.tk rfl (da_cons (de_var (pv 3)) da_nil)))
      (dss_cons (ds_if (dt_cmp opd_gt (de_pf (de_var (pv 0)) P_free B.hr B.gd) (de_int) (nomark _))
      (dss_one (ds_ret (de_non)))
      dss_nil)
      (dss_cons (ds_set (i := 4) sc_Ppreempt.nd rfl (by first | exact Or.inl rfl | exact Or.inr rfl) (de_mf (de_var (pv 0)) M_victim B.hr B.gd B.tk (da_cons (de_var (pv 2)) (da_cons (de_var (pv 3)) da_nil))))
      (dss_cons (ds_if (dt_cmp opd_isN (de_var (pv 4)) (de_non) (nomark _))
      (dss_one (ds_ret (de_non)))
      dss_nil)
      (dss_cons (ds_asg (de_ix (kfld K (de_var (pv 0))) (de_var (pv 4)) (by intro _ _; rfl)) (dg_tup (n := 3) rfl (dgs_cons (dg_name (i := 5) sc_Ppreempt.nd rfl (by first | exact Or.inl rfl | exact Or.inr rfl)) (dgs_cons (dg_name (i := 6) sc_Ppreempt.nd rfl (by first | exact Or.inl rfl | exact Or.inr rfl)) (dgs_cons (dg_name (i := 7) sc_Ppreempt.nd rfl (by first | exact Or.inl rfl | exact Or.inr rfl)) dgs_nil)))))
      (dss_cons (ds_asg (de_tup (da_cons (de_var (pv 5)) (da_cons (de_var (pv 6)) (da_cons (de_bl) da_nil)))) (dg_sub (W := W0) (kfld K (de_var (pv 0))) (de_var (pv 4))))
      (dss_cons (ds_expr (de_bm md_append PySem.F.plainAttrs_list PySem.F.slot_list_append PySem.F.type_list_append (kfld K (de_var (pv 0))) (da_cons (de_tup (da_cons (de_var (pv 2)) (da_cons (de_var (pv 1)) (da_cons (de_bl) da_nil)))) da_nil)))
      (dss_one (ds_ret (de_var (pv 6)))))))))))))) (fun ys m F P h => ?_)
  obtain ⟨a, u, p, rs, i, k, vs, rfl, i0, i5, k0, k9, hv, A, hl, hn, hs⟩ := h
  obtain ⟨dx, ho⟩ := A.ob
  refine ⟨rfl, _, rfl, _, rfl, i0, i5, _, rfl, _, rfl, k0, k9, _, rfl, vs, rfl, hv, fun m1 hm1 => ?_⟩
  have A1 := A.le hm1
  obtain ⟨d1, ho1⟩ := A1.ob
  refine ⟨_, rfl, a, d1, _, rfl, ho1, a, u, p, rs, rfl, A1, hl, fun m2 hm2 => ⟨_, rfl, iteD (fun hf => ?_) (fun hf => ?_)⟩⟩
  · exact hn (if_pos hf) m2 (hm1.trans hm2)
  · have A2 := A1.le hm2
    obtain ⟨d2, ho2⟩ := A2.ob
    refine ⟨_, rfl, a, d2, _, rfl, ho2, fl_no u p (by decide +kernel) (by decide +kernel), _, rfl, _, rfl, a, u, p, rs, k, vs, rfl, A2, hl, fun m3 hm3 => ?_⟩
    have m03 := (hm1.trans hm2).trans hm3
    have A3 := A2.le hm3
    obtain ⟨d3, ho3⟩ := A3.ob
    unfold vicD
    unfold preF at hn hs
    rw [if_neg hf] at hn hs
    cases e : vicL rs k vs with
    | nil =>
      rw [e] at hn
      exact ⟨_, rfl, rfl, _, rfl, iteI rfl (hn rfl m3 m03)⟩
    | cons q qs =>
      rw [e] at hs
      obtain ⟨n, en, hnl⟩ := vicL_lt (e ▸ mxP_mem qs q : mxP q qs ∈ vicL rs k vs)
      have e1 : rs[n]? = some rs[n] := List.getElem?_eq_getElem hnl
      simp only [en, Int.toNat_natCast, e1, Option.map_some] at hs
      refine ⟨_, rfl, rfl, _, rfl, iteE rfl ?_⟩
      simp only [en]
      refine ⟨_, rfl, a, C, d3, _, _, rfl, ho3, L.cl, L.nR, fl_r u p, _, rfl, (n : Nat), rs.map rqY, rqY rs[n], rfl, .inl A3.ls, at_nat (by rw [List.getElem?_map, e1]; rfl), ?_⟩
      refine tup3 ⟨_, _, rfl, _, _, rfl, _, _, rfl, rfl, ?_⟩
      refine ⟨_, rfl, _, rfl, len3 _ _ _, ?_⟩
      refine ⟨_, rfl, a, C, d3, _, _, rfl, ho3, L.cl, L.nR, fl_r u p, _, rfl, p, rs.map rqY, (n : Nat), n, rfl, rfl, A3.ls, ix_nat (by rw [List.length_map]; exact hnl), ?_⟩
      have pa : p ≠ a := A3.ne.symm
      refine ⟨_, rfl, a, C, d3, _, _, rfl, (mu_ne A3.ne).trans ho3, L.cl, L.nR, fl_r u p, .inl ⟨rfl, _, mu_same⟩, _, rfl, _, rfl, len3 _ _ _, p, _, _, rfl, rfl, mu_same, by rw [List.length_set, List.length_map]; omega, _, rfl, ?_⟩
      refine hs _ _ rfl _ ?_
      rw [mu_mu, List.map_append, List.map_set]
      exact m03.mu
abbrev s_law_cell_at : Stmt := top 19
abbrev N_law_cell_at : List Str := ["_law_script", "_law_k"]
theorem sc_law_cell_at : FnScope N_law_cell_at ["_law_script", "_law_k"] (defScope s_law_cell_at) := ⟨rfl, rfl, rfl, by decide +kernel, rfl, by decide +kernel, by decide +kernel⟩
def d_law_cell_at : DSp := fun ys m F _ => ∃ (ns : List Int) (k : Nat), ys = [.r (ns.map PyData.int), .d (.int k)] ∧ ∀ x, F (.d (.int x)) m
theorem ok_law_cell_at {f : Addr} {fd : FuncData} (F : Fun K "_law_cell_at" "_law_cell_at" s_law_cell_at f fd) (T : Txt K mg)  : FnD P w K mg base 1 f fd ["_law_script", "_law_k"] d_law_cell_at := by
  refine Dl.Fun.dok F sc_law_cell_at _ (fun cdv A outer s H E B hp =>
      (dss_cons (ds_if (dt_cmp opd_lt (de_var (pv 1)) (de_cb cd_len rfl T.b_len boot_len (da_cons (de_var (pv 0)) da_nil)) (nomark _))
      (dss_one (ds_ret (de_ix (de_var (pv 0)) (de_var (pv 1)) (by intro _ _; rfl))))
      dss_nil)
      (dss_one (ds_ret (de_int))))) (fun ys m F P h => ?_)
  obtain ⟨ns, k, rfl, h⟩ := h
  refine ⟨rfl, _, rfl, _, rfl, _, (ns.map PyData.int).map Y.d, rfl, .inr rfl, ?_⟩
  rw [List.length_map, List.length_map]
  refine ⟨_, rfl, iteD (fun hk => ?_) (fun _ => h 0)⟩
  have hk' : k < ns.length := by omega
  exact ⟨_, rfl, _, rfl, (k : Nat), _, .d (.int ns[k]), rfl, rfl, at_nat (by rw [List.getElem?_map, List.getElem?_map, List.getElem?_eq_getElem hk']; rfl), h _⟩
abbrev s_law_same : Stmt := top 20
abbrev N_law_same : List Str := ["_law_actual", "_law_expected"]
theorem sc_law_same : FnScope N_law_same ["_law_actual", "_law_expected"] (defScope s_law_same) := ⟨rfl, rfl, rfl, by decide +kernel, rfl, by decide +kernel, by decide +kernel⟩
def okD (d : PyData) : Prop := d.showable = true ∧ d.hasDict = false ∧ d.depth ≤ 40 ∧ cst d ≤ 10000000
def d_law_same : DSp := fun ys m F _ => ∃ d, ys = [.d d, .d d] ∧ okD d ∧ F (.d (.bool true)) m
theorem ok_law_same {f : Addr} {fd : FuncData} (F : Fun K "_law_same" "_law_same" s_law_same f fd) (T : Txt K mg)  : FnD P w K mg base 1 f fd ["_law_actual", "_law_expected"] d_law_same := by
  refine Dl.Fun.dok F sc_law_same _ (fun cdv A outer s H E B hp =>
      (dss_one (ds_ret (de_cmp (opd_eq (Dl.Room.u64 B.hr)) (de_cb (cd_repr B.gd (Dl.Room.u64 B.hr)) rfl T.b_repr boot_repr (da_cons (de_var (pv 0)) da_nil)) (de_cb (cd_repr B.gd (Dl.Room.u64 B.hr)) rfl T.b_repr boot_repr (da_cons (de_var (pv 1)) da_nil)) (nomark _))))) (fun ys m F P h => ?_)
  obtain ⟨d, rfl, ⟨h1, h2, h3, h4⟩, h⟩ := h
  refine ⟨rfl, _, rfl, d, rfl, h1, h2, h3, h4, _, rfl, d, rfl, h1, h2, h3, h4, ?_⟩
  show F (.d (.bool (decide (d.shown = d.shown)))) m
  rw [decide_eq_true rfl]
  exact h
abbrev s_law_released : Stmt := top 21
abbrev N_law_released : List Str := ["_law_line", "_law_who"]
theorem sc_law_released : FnScope N_law_released ["_law_line", "_law_who"] (defScope s_law_released) := ⟨rfl, rfl, rfl, by decide +kernel, rfl, by decide +kernel, by decide +kernel⟩
def d_law_released (C : Addr) (sv : List Rq → List Nat) : DSp := fun ys m F _ => ∃ a u p rs i, ys = [.l a, .d (.int i)] ∧ 0 ≤ i ∧ i ≤ 5 ∧ At C m a u p rs ∧ rs.length ≤ 5000 ∧
  (relF sv rs i = none → ∀ m', Mle m m' → F (.d .none) m') ∧ (∀ rs' d, relF sv rs i = some (rs', d) → ∀ m', Mle (mu m p (.lst (rs'.map rqY))) m' → F (.d (.list [d])) m')
theorem ok_law_released {f : Addr} {fd : FuncData} (F : Fun K "_law_released" "_law_released" s_law_released f fd) (T : Txt K mg) {C E0 : Addr} {sv : List Rq → List Nat} (L : Lin K C) {f1 : Addr} {fd1 : FuncData} (M_release : MF P w K mg base C "release" 6 f1 fd1 ["self", "process"] (d_release C E0 sv)) (X_HoldError : XcF K mg "HoldError" E0) : FnD P w K mg base 8 f fd ["_law_line", "_law_who"] (d_law_released C sv) := by
  refine Dl.Fun.dok F sc_law_released _ (fun cdv A outer s H E B hp =>
      (dss_one (ktry K rfl rfl (XcF.nm X_HoldError rfl) B.tk (fun W' pn xe htk hp' => (dss_one (ds_ret (de_lst (da_cons (de_mf (de_var (pv 0)) M_release B.hr B.gd htk (da_cons (de_var (pv 1)) da_nil)) da_nil))))) (fun a oe cls d pn hz hf => (dss_one (ds_ret (de_non))))))) (fun ys m F P h => ?_)
  obtain ⟨a, u, p, rs, i, rfl, i0, i5, A, hl, hn, hs⟩ := h
  obtain ⟨dx, ho⟩ := A.ob
  refine ⟨rfl, _, rfl, a, dx, _, rfl, ho, fl_no u p (by decide +kernel) (by decide +kernel), _, rfl, a, u, p, rs, i, rfl, i0, i5, A, hl, fun e m1 hm1 => ?_, fun rs' d e m1 hm1 => ?_⟩
  · exact ⟨true, X_HoldError.em, fun _ => hn e m1 hm1, fun z => by cases z⟩
  · exact ⟨len1 _, [_], rfl, hs rs' d e m1 hm1⟩
abbrev s_law_first_case : Stmt := top 22
abbrev N_law_first_case : List Str := ["_law_shift", "_law_p", "_law_line", "_law_found", "_law_expected", "_law_place"]
theorem sc_law_first_case : FnScope N_law_first_case ["_law_shift"] (defScope s_law_first_case) := ⟨rfl, rfl, rfl, by decide +kernel, rfl, by decide +kernel, by decide +kernel⟩
theorem allD_ds : ∀ ds : List PyData, allD (ds.map Y.d) = some ds
  | [] => rfl
  | d :: ds => by
    show (allD (ds.map Y.d)).map _ = _
    rw [allD_ds ds]; rfl
theorem mkT_l {ys : List Y} {ds : List PyData} {m : Mu} {F : Y → Mu → Prop} (e : ys = ds.map Y.d) (h : F (.d (.tuple ds)) m) : mkT ys m F := by
  subst e; unfold mkT; rw [allD_ds]; exact h
section
variable {r : Ro} {m : Mu} {F : Y → Mu → Prop} {g : XG} {tt : XT} {te : XE} {vs : List Nat}
theorem lc_rngE (f : Nat → PyData) (L : List PyData) {n : Nat} (hn : n ≤ 10000) (eL : (List.range n).map f = L)
    (ht : ∀ i M, i < n → Mle m M → ∀ (C : Y → Mu → Prop) (N : Mu → Prop), (∀ M', Mle M M' → C (.d (f i)) M') → g (.d (.int (0 + (i : Int)))) (wipeR r vs) M (fun r2 M2 => tt r2 M2 (fun b M3 => if b = true then te r2 M3 C P0 else N M3) P0))
    (hf : ∀ m', Mle m m' → F (.d (.list L)) m') : LcZ finD (wkRange 0 n) g tt te vs r m F := by
  refine lc_go (k := wkRange 0 n) (fun i => some (.d (f i))) hn (fun _ _ => trivial) (fun i M hi hM C N hC hN => ht i M hi hM C N fun M' hM' => hC _ M' rfl hM') (fun D M hD hM => ?_)
  have ek : (List.range n).filterMap (fun i => some (Y.d (f i))) = ((List.range n).map f).map Y.d := by rw [List.filterMap_eq_map', List.map_map]; rfl
  have hM' : Mle (mu m D (.lst ((List.range n).filterMap fun i => some (Y.d (f i))))) M := hM
  show finD D ((List.range n).filterMap _) M F
  rw [ek, eL] at hM' ⊢
  exact fin_d _ rfl hD hM' hf
end
/-- the order of what waits, from a list that is in order -/
theorem sv_c {rs : List Rq} {L : List (Int × Int)} {I : List Nat} (hL : L.Pairwise fun a b => lexLe a b = true) (hp : L.Perm (wPairs 1 rs)) (hI : L.map (fun p => p.2.toNat) = I) : svR 1 rs = I := by
  unfold svR
  rw [srt_uniq hL hp]
  exact hI
def endI (rs : List Rq) : List Nat → List Rq × PyData
  | [] => (rs, .none)
  | k :: _ => match rs[k]? with
    | none => (rs, .none)
    | some q => (rs.set k { q with held := true }, ri q.proc)
theorem endI_F (sv : List Rq → List Nat) (rs : List Rq) : endF sv rs = endI rs (sv rs) := by
  unfold endF
  cases sv rs <;> rfl
theorem rel_c {sv : List Rq → List Nat} {rs rs' : List Rq} {i : Int} {j : Nat} {I : List Nat} {d : PyData} (h1 : lastH rs i = some j) (h2 : sv (rs.eraseIdx j) = I) (h3 : endI (rs.eraseIdx j) I = (rs', d)) : relF sv rs i = some (rs', d) := by
  unfold relF
  rw [h1]
  show some (endF sv _) = _
  rw [endI_F, h2]
  exact congrArg some h3
theorem wait_c {sv : List Rq → List Nat} {rs : List Rq} {I : List Nat} {L : List PyData} (h : sv rs = I) (h2 : I.filterMap (fun i => rs[i]?.map pairD) = L) : waitL sv rs = L := by
  unfold waitL; rw [h]; exact h2
theorem At.put {C a p : Addr} {m m' : Mu} {u : Int} {rs rs' : List Rq} (A : At C m a u p rs) (h : Mle (mu m p (.lst (rs'.map rqY))) m') : At C m' a u p rs' := ⟨A.ob.imp fun _ e => h _ _ (by rw [mu_ne A.ne]; exact e), h _ _ mu_same⟩
section
variable {C E a p : Addr} {m : Mu} {u i k : Int} {rs rs' : List Rq} {sv : List Rq → List Nat} {F : Y → Mu → Prop} {P : XP} {b : Bool} {d : PyData} {L : List PyData} {vs : List Int} {v : Int} {nm t : Str}
theorem c_req (A : At C m a u p rs) (e : askF u rs i k = rs') (eb : decide (0 < u - (heldN rs : Int)) = b) (h : ∀ m', Mle (mu m p (.lst (rs'.map rqY))) m' → At C m' a u p rs' → F (.d (.bool b)) m')
    (hi : ((0 ≤ i ∧ i ≤ 5) ∧ 0 ≤ k ∧ k ≤ 9) ∧ rs.length ≤ 5000 := by decide) : d_request C [.l a, .d (.int i), .d (.int k)] m F P := ⟨a, u, p, rs, i, k, rfl, hi.1.1.1, hi.1.1.2, hi.1.2.1, hi.1.2.2, A, hi.2, fun m' hm' => by rw [e] at hm'; rw [eb]; exact h m' hm' (A.put hm')⟩
theorem c_rel (A : At C m a u p rs) (e : relF sv rs i = some (rs', d)) (h : ∀ m', Mle (mu m p (.lst (rs'.map rqY))) m' → At C m' a u p rs' → F (.d d) m')
    (hi : (0 ≤ i ∧ i ≤ 5) ∧ rs.length ≤ 5000 := by decide) : d_release C E sv [.l a, .d (.int i)] m F P := ⟨a, u, p, rs, i, rfl, hi.1.1, hi.1.2, A, hi.2, fun z => (by rw [e] at z; cases z), fun r2 d2 z m' hm' => by rw [e] at z; cases z; exact h m' hm' (A.put hm')⟩
theorem c_lrel0 (A : At C m a u p rs) (e : relF sv rs i = none) (h : ∀ m', Mle m m' → At C m' a u p rs → F (.d .none) m')
    (hi : (0 ≤ i ∧ i ≤ 5) ∧ rs.length ≤ 5000 := by decide) : d_law_released C sv [.l a, .d (.int i)] m F P := ⟨a, u, p, rs, i, rfl, hi.1.1, hi.1.2, A, hi.2, fun _ m' hm' => h m' hm' (A.le hm'), fun r2 d2 z m' hm' => by rw [e] at z; cases z⟩
theorem c_lrel (A : At C m a u p rs) (e : relF sv rs i = some (rs', d)) (h : ∀ m', Mle (mu m p (.lst (rs'.map rqY))) m' → At C m' a u p rs' → F (.d (.list [d])) m')
    (hi : (0 ≤ i ∧ i ≤ 5) ∧ rs.length ≤ 5000 := by decide) : d_law_released C sv [.l a, .d (.int i)] m F P := ⟨a, u, p, rs, i, rfl, hi.1.1, hi.1.2, A, hi.2, fun z => (by rw [e] at z; cases z), fun r2 d2 z m' hm' => by rw [e] at z; cases z; exact h m' hm' (A.put hm')⟩
theorem c_pre (A : At C m a u p rs) (e : preF u rs i k vs = some (rs', v)) (h : ∀ m', Mle (mu m p (.lst (rs'.map rqY))) m' → At C m' a u p rs' → F (.d (.int v)) m')
    (hi : (((0 ≤ i ∧ i ≤ 5) ∧ 0 ≤ k ∧ k ≤ 9) ∧ ∀ v ∈ vs, 0 ≤ v ∧ v ≤ 5) ∧ rs.length ≤ 5000 := by decide) : d_Ppreempt C [.l a, .d (.int i), .d (.int k), .d (.tuple (vs.map ri))] m F P := ⟨a, u, p, rs, i, k, vs, rfl, hi.1.1.1.1, hi.1.1.1.2, hi.1.1.2.1, hi.1.1.2.2, hi.1.2, A, hi.2, fun z => (by rw [e] at z; cases z), fun r2 d2 z m' hm' => by rw [e] at z; cases z; exact h m' hm' (A.put hm')⟩
theorem c_pre0 (A : At C m a u p rs) (e : preF u rs i k vs = none) (h : ∀ m', Mle m m' → At C m' a u p rs → F (.d .none) m')
    (hi : (((0 ≤ i ∧ i ≤ 5) ∧ 0 ≤ k ∧ k ≤ 9) ∧ ∀ v ∈ vs, 0 ≤ v ∧ v ≤ 5) ∧ rs.length ≤ 5000 := by decide) : d_Ppreempt C [.l a, .d (.int i), .d (.int k), .d (.tuple (vs.map ri))] m F P := ⟨a, u, p, rs, i, k, vs, rfl, hi.1.1.1.1, hi.1.1.1.2, hi.1.1.2.1, hi.1.1.2.2, hi.1.2, A, hi.2, fun _ m' hm' => h m' hm' (A.le hm'), fun r2 d2 z m' hm' => by rw [e] at z; cases z⟩
theorem c_hold (A : At C m a u p rs) (e : heldL rs = L) (h : ∀ m', Mle m m' → At C m' a u p rs → F (.d (.tuple L)) m') (hi : rs.length ≤ 5000 := by decide) : d_holders C [.l a] m F P := ⟨a, u, p, rs, rfl, A, hi, fun m' hm' => by rw [e]; exact h m' hm' (A.le hm')⟩
theorem c_wait (A : At C m a u p rs) (e : waitL sv rs = L) (h : ∀ m', Mle m m' → At C m' a u p rs → F (.d (.tuple L)) m') (hi : rs.length ≤ 5000 := by decide) : d_waiting C sv [.l a] m F P := ⟨a, u, p, rs, rfl, A, hi, fun m' hm' => by rw [e]; exact h m' hm' (A.le hm')⟩
theorem c_free (A : At C m a u p rs) (e : u - (heldN rs : Int) = v) (h : ∀ m', Mle m m' → At C m' a u p rs → F (.d (.int v)) m') (hi : rs.length ≤ 5000 := by decide) : d_free C [.l a] m F P := ⟨a, u, p, rs, rfl, A, hi, fun m' hm' => by rw [e]; exact h m' hm' (A.le hm')⟩
theorem c_len (A : At C m a u p rs) (e0 : waitL sv rs = L) (e : ((L.length : Nat) : Int) = v) (h : ∀ m', Mle m m' → At C m' a u p rs → F (.d (.int v)) m') (hi : rs.length ≤ 5000 := by decide) : d_length C sv [.l a] m F P := ⟨a, u, p, rs, rfl, A, hi, fun m' hm' => by rw [e0, e]; exact h m' hm' (A.le hm')⟩
theorem c_rep (A : At C m a u p rs) (e0 : waitL sv rs = L) (e : rpS nm u L.length = t) (hw : L.length ≤ 100) (h : ∀ m', Mle m m' → At C m' a u p rs → F (.d (.str t)) m') (hi : (1 ≤ u ∧ u ≤ 3) ∧ rs.length ≤ 5000 := by decide) : d_repr C sv nm [.l a] m F P := ⟨a, u, p, rs, rfl, A, hi.2, hi.1, by rw [e0]; exact hw, fun m' hm' => by rw [e0, e]; exact h m' hm' (A.le hm')⟩
theorem c_init (hu : 1 ≤ u ∧ u ≤ 3) {dx : Addr} (hm : m a = some (.ins C dx [])) (h : ∀ p m', At C m' a u p [] → F (.d .none) m') : d_init C [.l a, .d (.int u)] m F P := ⟨a, dx, u, rfl, hu.1, hu.2, hm, fun p m' _ A _ => h p m' A⟩
end
def d_case : DSp := fun ys m F _ => ∃ s : Int, ys = [.d (.int s)] ∧ 0 ≤ s ∧ s ≤ 5 ∧ ∀ m', F (.d (.bool true)) m'
theorem ok_law_first_case {f : Addr} {fd : FuncData} (F : Fun K "_law_first_case" "_law_first_case" s_law_first_case f fd) (T : Txt K mg) {C2 XH fN f_request f_preempt f_release f_holders f_waiting p_free f_free p_length f_length f_repr f_same : Addr} {fdN fd_request fd_preempt fd_release fd_holders fd_waiting fd_free fd_length fd_repr fd_same : FuncData} (N_PreemptLine : NF P w K mg base "PreemptLine" C2 3 fN fdN ["self", "units"] (d_init C2)) (M2_request : MF P w K mg base C2 "request" 8 f_request fd_request ["self", "process", "rank"] (d_request C2)) (M2_preempt : MF P w K mg base C2 "preempt" 6 f_preempt fd_preempt ["self", "process", "rank", "victims"] (d_Ppreempt C2)) (M2_release : MF P w K mg base C2 "release" 6 f_release fd_release ["self", "process"] (d_release C2 XH (svR 1))) (M2_holders : MF P w K mg base C2 "holders" 3 f_holders fd_holders ["self"] (d_holders C2)) (M2_waiting : MF P w K mg base C2 "waiting" 5 f_waiting fd_waiting ["self"] (d_waiting C2 (svR 1))) (P2_free : PF P w K mg base C2 "free" 4 p_free f_free fd_free ["self"] (d_free C2)) (P2_length : PF P w K mg base C2 "length" 6 p_length f_length fd_length ["self"] (d_length C2 (svR 1))) (R2_repr : MF P w K mg base C2 "__repr__" 8 f_repr fd_repr ["self"] (d_repr C2 (svR 1) "PreemptLine(")) (G_law_same : GF P w K mg base "_law_same" 1 f_same fd_same ["_law_actual", "_law_expected"] d_law_same) (KW_init_units : KwB fdN ["self", "units"] ["units"] 1 [0, 1]) (KW_request_process_rank : KwB fd_request ["self", "process", "rank"] ["process", "rank"] 1 [0, 1, 2]) (KW_request_rank_process : KwB fd_request ["self", "process", "rank"] ["rank", "process"] 1 [0, 2, 1]) (KW_preempt_victims_rank : KwB fd_preempt ["self", "process", "rank", "victims"] ["victims", "rank"] 2 [0, 1, 3, 2]) (KW_release_process : KwB fd_release ["self", "process"] ["process"] 1 [0, 1]) : FnD P w K mg base 10 f fd ["_law_shift"] (d_case) := by
  refine Dl.Fun.dok F sc_law_first_case _ (fun cdv A outer s H E B hp =>
      (dss_cons (ds_setLc (i := 1) (fin := finD) finD_ok rfl sc_law_first_case.nd rfl rfl (sw_true rfl rfl rfl (by decide +kernel)) (di_range1 rfl T.b_range (da_cons (de_int) da_nil)) (blkOk_by (own := [("_law_place", 5)]) (N := N_law_first_case) (sc := defScope s_law_first_case) (by decide +kernel)) (fun _ _ _ _ _ => pg_name (i := 5) sc_law_first_case.nd rfl (by first | exact Or.inl rfl | exact Or.inr rfl)) (dgw_name (i := 5) (by decide)) (fun _ _ _ _ _ => dts_nil) (fun _ _ _ _ _ => de_op opd_mod (de_op opd_add (de_var (pv 5)) (de_var (pv 0))) (de_int)))
      (dss_cons (ds_set (i := 2) sc_law_first_case.nd rfl (by first | exact Or.inl rfl | exact Or.inr rfl) (de_makeK N_PreemptLine B.hr B.gd B.tk KW_init_units rfl (dk_cons (de_int) dk_nil)))
      (dss_cons (ds_set (i := 3) sc_law_first_case.nd rfl (by first | exact Or.inl rfl | exact Or.inr rfl) (de_lstM (da_cons (de_methK (de_var (pv 2)) M2_request B.hr B.gd B.tk KW_request_process_rank (da_nil) (dk_cons (de_ix (de_var (pv 1)) (de_int) (by intro _ _; rfl)) (dk_cons (de_int) dk_nil)) (hcw := kw_0 M2_request.mt.kp)) (da_cons (de_methK (de_var (pv 2)) M2_request B.hr B.gd B.tk KW_request_rank_process (da_nil) (dk_cons (de_int) (dk_cons (de_ix (de_var (pv 1)) (de_int) (by intro _ _; rfl)) dk_nil)) (hcw := kw_0 M2_request.mt.kp)) da_nil))))
      (dss_cons (ds_expr (de_bm md_append PySem.F.plainAttrs_list PySem.F.slot_list_append PySem.F.type_list_append (de_var (pv 3)) (da_cons (de_methK (de_var (pv 2)) M2_preempt B.hr B.gd B.tk KW_preempt_victims_rank ((da_cons (de_ix (de_var (pv 1)) (de_int) (by intro _ _; rfl)) da_nil)) (dk_cons (de_tup (da_cons (de_ix (de_var (pv 1)) (de_int) (by intro _ _; rfl)) (da_cons (de_ix (de_var (pv 1)) (de_int) (by intro _ _; rfl)) da_nil))) (dk_cons (de_int) dk_nil)) (hcw := kw_1 M2_preempt.mt.kp)) da_nil)))
      (dss_cons (ds_set (i := 3) sc_law_first_case.nd rfl (by first | exact Or.inl rfl | exact Or.inr rfl) (de_op opd_add (de_var (pv 3)) (de_lst (da_cons (de_mf0 (de_var (pv 2)) M2_holders B.hr B.gd B.tk) (da_cons (de_mf0 (de_var (pv 2)) M2_waiting B.hr B.gd B.tk) (da_cons (de_methK (de_var (pv 2)) M2_release B.hr B.gd B.tk KW_release_process (da_nil) (dk_cons (de_ix (de_var (pv 1)) (de_int) (by intro _ _; rfl)) dk_nil) (hcw := kw_0 M2_release.mt.kp)) (da_cons (de_pf (de_var (pv 2)) P2_free B.hr B.gd) (da_cons (de_pf (de_var (pv 2)) P2_length B.hr B.gd) (da_cons (de_cb (cd_reprO R2_repr B.hr B.gd) rfl T.b_repr boot_repr (da_cons (de_var (pv 2)) da_nil)) da_nil)))))))))
      (dss_cons (ds_set (i := 4) sc_law_first_case.nd rfl (by first | exact Or.inl rfl | exact Or.inr rfl) (de_lst (da_cons (de_bl) (da_cons (de_bl) (da_cons (de_ix (de_var (pv 1)) (de_int) (by intro _ _; rfl)) (da_cons (de_tup (da_cons (de_tup (da_cons (de_int) (da_cons (de_ix (de_var (pv 1)) (de_int) (by intro _ _; rfl)) da_nil))) da_nil)) (da_cons (de_tup (da_cons (de_tup (da_cons (de_int) (da_cons (de_ix (de_var (pv 1)) (de_int) (by intro _ _; rfl)) da_nil))) (da_cons (de_tup (da_cons (de_int) (da_cons (de_ix (de_var (pv 1)) (de_int) (by intro _ _; rfl)) da_nil))) da_nil))) (da_cons (de_ix (de_var (pv 1)) (de_int) (by intro _ _; rfl)) (da_cons (de_int) (da_cons (de_int) da_nil))))))))))
      (dss_one (ds_ret (de_gf G_law_same B.hr B.gd B.tk rfl (da_cons (de_var (pv 3)) (da_cons (de_op opd_add (de_var (pv 4)) (de_lst (da_cons (de_str) da_nil))) da_nil)))))))))))) (fun ys m F P h => ?_)
  obtain ⟨s, rfl, s0, s5, h⟩ := h
  refine ⟨rfl, ?_⟩
  have hs : s = 0 ∨ s = 1 ∨ s = 2 ∨ s = 3 ∨ s = 4 ∨ s = 5 := by omega
  clear s0 s5
  rcases hs with rfl | rfl | rfl | rfl | rfl | rfl
  · refine ⟨6, rfl, by decide, by decide, ?_⟩
    refine lc_rngE (fun i => .int (((0 + (i : Int)) + 0) % 6)) [.int 0, .int 1, .int 2, .int 3, .int 4, .int 5] (Nat.le_of_ble_eq_true rfl) rfl (fun i M hi hM C' N' hC => iteT ⟨_, rfl, _, rfl, (by decide : (0 : Int) < 6), hC M Mle.refl⟩) fun m0 hm0 => ?_
    refine ⟨rfl, fun a dx na => c_init (by decide) mu_same fun p m1 A1 => ⟨rfl, ?_⟩⟩
    obtain ⟨dx1, ho1⟩ := A1.ob
    refine ⟨_, rfl, a, dx1, _, rfl, ho1, fl_no _ _ (by decide +kernel) (by decide +kernel), ?_⟩
    refine ⟨_, rfl, 0, _, .d (.int 0), rfl, rfl, at_nat (n := 0) rfl, ?_⟩
    refine ⟨rfl, rfl, ?_⟩
    refine c_req A1 (i := 0) (k := 5) (rs' := ([⟨5, 0, true⟩] : List Rq)) (b := true) rfl rfl (fun m2 hm2 A2 => ?_)
    obtain ⟨dx2, ho2⟩ := A2.ob
    refine ⟨_, rfl, a, dx2, _, rfl, ho2, fl_no _ _ (by decide +kernel) (by decide +kernel), ?_⟩
    refine ⟨_, rfl, 1, _, .d (.int 1), rfl, rfl, at_nat (n := 1) rfl, ?_⟩
    refine ⟨rfl, rfl, ?_⟩
    refine c_req A2 (i := 1) (k := 7) (rs' := ([⟨5, 0, true⟩, ⟨7, 1, false⟩] : List Rq)) (b := false) rfl rfl (fun m3 hm3 A3 => ?_)
    refine ⟨Nat.le_of_ble_eq_true rfl, fun q nq => ?_⟩
    have hqp : q ≠ p := fun e => by rw [e, A3.ls] at nq; cases nq
    have hqa : q ≠ a := fun e => by obtain ⟨dz, hz⟩ := A3.ob; rw [e, hz] at nq; cases nq
    have A4 : At C2 (mu m3 q (.lst [.d (.bool true), .d (.bool false)])) a 1 p ([⟨5, 0, true⟩, ⟨7, 1, false⟩] : List Rq) := ⟨A3.ob.imp fun _ e => (mu_ne hqa.symm).trans e, (mu_ne hqp.symm).trans A3.ls⟩
    have hq4 : (mu m3 q (.lst [.d (.bool true), .d (.bool false)])) q = some (.lst [.d (.bool true), .d (.bool false)]) := mu_same
    refine ⟨_, rfl, .inl ⟨rfl, _, hq4⟩, ?_⟩
    obtain ⟨dx4, ho4⟩ := A4.ob
    refine ⟨_, rfl, a, dx4, _, rfl, ho4, fl_no _ _ (by decide +kernel) (by decide +kernel), ?_⟩
    refine ⟨_, rfl, 2, _, .d (.int 2), rfl, rfl, at_nat (n := 2) rfl, ?_⟩
    refine ⟨_, rfl, 0, _, .d (.int 0), rfl, rfl, at_nat (n := 0) rfl, ?_⟩
    refine ⟨_, rfl, 1, _, .d (.int 1), rfl, rfl, at_nat (n := 1) rfl, ?_⟩
    refine ⟨Nat.le_of_ble_eq_true rfl, mkT_l (ds := [.int 0, .int 1]) rfl ?_⟩
    refine ⟨rfl, rfl, ?_⟩
    refine c_pre A4 (i := 2) (k := 3) (vs := [0, 1]) (rs' := ([⟨5, 0, false⟩, ⟨7, 1, false⟩, ⟨3, 2, true⟩] : List Rq)) (v := 0) (by first | rfl | kernel_rfl) (fun m5 hm5 A5 => ?_)
    have hq5 := hm5 _ _ (by rw [mu_ne hqp]; exact hq4)
    refine ⟨q, _, _, rfl, rfl, hq5, Nat.le_of_ble_eq_true rfl, ?_⟩
    have A6 : At C2 (mu m5 q (.lst [.d (.bool true), .d (.bool false), .d (.int 0)])) a 1 p ([⟨5, 0, false⟩, ⟨7, 1, false⟩, ⟨3, 2, true⟩] : List Rq) := ⟨A5.ob.imp fun _ e => (mu_ne hqa.symm).trans e, (mu_ne hqp.symm).trans A5.ls⟩
    have hq6 : (mu m5 q (.lst [.d (.bool true), .d (.bool false), .d (.int 0)])) q = some (.lst [.d (.bool true), .d (.bool false), .d (.int 0)]) := mu_same
    refine ⟨_, rfl, ?_⟩
    obtain ⟨dx6, ho6⟩ := A6.ob
    refine ⟨_, rfl, a, dx6, _, rfl, ho6, fl_no _ _ (by decide +kernel) (by decide +kernel), ?_⟩
    refine c_hold A6 (L := [.tuple [.int 3, .int 2]]) rfl (fun m7 hm7 A7 => ?_)
    have hq7 := hm7 _ _ hq6
    obtain ⟨dx7, ho7⟩ := A7.ob
    refine ⟨_, rfl, a, dx7, _, rfl, ho7, fl_no _ _ (by decide +kernel) (by decide +kernel), ?_⟩
    refine c_wait A7 (L := [.tuple [.int 5, .int 0], .tuple [.int 7, .int 1]]) (wait_c (sv_c (I := [0, 1]) (L := [(5, 0), (7, 1)]) (by decide) (by decide) rfl) rfl) (fun m8 hm8 A8 => ?_)
    have hq8 := hm8 _ _ hq7
    obtain ⟨dx8, ho8⟩ := A8.ob
    refine ⟨_, rfl, a, dx8, _, rfl, ho8, fl_no _ _ (by decide +kernel) (by decide +kernel), ?_⟩
    refine ⟨_, rfl, 2, _, .d (.int 2), rfl, rfl, at_nat (n := 2) rfl, ?_⟩
    refine ⟨rfl, rfl, ?_⟩
    refine c_rel A8 (i := 2) (rs' := ([⟨5, 0, true⟩, ⟨7, 1, false⟩] : List Rq)) (d := .int 0) (rel_c (j := 2) rfl (sv_c (I := [0, 1]) (L := [(5, 0), (7, 1)]) (by decide) (by decide) rfl) rfl) (fun m9 hm9 A9 => ?_)
    have hq9 := hm9 _ _ (by rw [mu_ne hqp]; exact hq8)
    obtain ⟨dx9, ho9⟩ := A9.ob
    refine ⟨_, rfl, a, dx9, _, rfl, ho9, c_free A9 (v := 0) rfl fun m10 hm10 A10 => ?_⟩
    have hq10 := hm10 _ _ hq9
    obtain ⟨dx10, ho10⟩ := A10.ob
    refine ⟨_, rfl, a, dx10, _, rfl, ho10, c_len A10 (v := 1) (L := [.tuple [.int 7, .int 1]]) (wait_c (sv_c (I := [1]) (L := [(7, 1)]) (by decide) (by decide) rfl) rfl) rfl fun m11 hm11 A11 => ?_⟩
    have hq11 := hm11 _ _ hq10
    obtain ⟨dx11, ho11⟩ := A11.ob
    refine ⟨_, rfl, a, dx11, _, rfl, ho11, c_rep A11 (t := "PreemptLine(1 units, 1 waiting)") (L := [.tuple [.int 7, .int 1]]) (wait_c (sv_c (I := [1]) (L := [(7, 1)]) (by decide) (by decide) rfl) rfl) (by decide +kernel) (by decide +kernel) fun m12 hm12 A12 => ⟨_, rfl, ?_⟩⟩
    have hq12 := hm12 _ _ hq11
    refine ⟨Nat.le_of_ble_eq_true rfl, [.tuple [.tuple [.int 3, .int 2]], .tuple [.tuple [.int 5, .int 0], .tuple [.int 7, .int 1]], .int 0, .int 0, .int 1, .str "PreemptLine(1 units, 1 waiting)"], rfl, ?_⟩
    refine ⟨_, _, [.bool true, .bool false, .int 0, .tuple [.tuple [.int 3, .int 2]], .tuple [.tuple [.int 5, .int 0], .tuple [.int 7, .int 1]], .int 0, .int 0, .int 1, .str "PreemptLine(1 units, 1 waiting)"], hq12, rfl, Nat.le_of_ble_eq_true rfl, rfl, ?_⟩
    refine ⟨_, rfl, 0, _, .d (.int 0), rfl, rfl, at_nat (n := 0) rfl, ?_⟩
    refine ⟨_, rfl, 2, _, .d (.int 2), rfl, rfl, at_nat (n := 2) rfl, ?_⟩
    refine ⟨Nat.le_of_ble_eq_true rfl, mkT_l (ds := [.int 3, .int 2]) rfl ?_⟩
    refine ⟨Nat.le_of_ble_eq_true rfl, mkT_l (ds := [.tuple [.int 3, .int 2]]) rfl ?_⟩
    refine ⟨_, rfl, 0, _, .d (.int 0), rfl, rfl, at_nat (n := 0) rfl, ?_⟩
    refine ⟨Nat.le_of_ble_eq_true rfl, mkT_l (ds := [.int 5, .int 0]) rfl ?_⟩
    refine ⟨_, rfl, 1, _, .d (.int 1), rfl, rfl, at_nat (n := 1) rfl, ?_⟩
    refine ⟨Nat.le_of_ble_eq_true rfl, mkT_l (ds := [.int 7, .int 1]) rfl ?_⟩
    refine ⟨Nat.le_of_ble_eq_true rfl, mkT_l (ds := [.tuple [.int 5, .int 0], .tuple [.int 7, .int 1]]) rfl ?_⟩
    refine ⟨_, rfl, 0, _, .d (.int 0), rfl, rfl, at_nat (n := 0) rfl, ?_⟩
    refine ⟨Nat.le_of_ble_eq_true rfl, [.bool true, .bool false, .int 0, .tuple [.tuple [.int 3, .int 2]], .tuple [.tuple [.int 5, .int 0], .tuple [.int 7, .int 1]], .int 0, .int 0, .int 1], rfl, ?_⟩
    refine ⟨_, rfl, ?_⟩
    refine ⟨_, rfl, ?_⟩
    refine ⟨Nat.le_of_ble_eq_true rfl, [.str "PreemptLine(1 units, 1 waiting)"], rfl, ?_⟩
    refine ⟨_, _, [.bool true, .bool false, .int 0, .tuple [.tuple [.int 3, .int 2]], .tuple [.tuple [.int 5, .int 0], .tuple [.int 7, .int 1]], .int 0, .int 0, .int 1, .str "PreemptLine(1 units, 1 waiting)"], rfl, rfl, Nat.le_of_ble_eq_true rfl, rfl, ?_⟩
    exact ⟨.list [.bool true, .bool false, .int 0, .tuple [.tuple [.int 3, .int 2]], .tuple [.tuple [.int 5, .int 0], .tuple [.int 7, .int 1]], .int 0, .int 0, .int 1, .str "PreemptLine(1 units, 1 waiting)"], rfl, ⟨by decide +kernel, by decide +kernel, by decide +kernel, by decide +kernel⟩, h _⟩
  · refine ⟨6, rfl, by decide, by decide, ?_⟩
    refine lc_rngE (fun i => .int (((0 + (i : Int)) + 1) % 6)) [.int 1, .int 2, .int 3, .int 4, .int 5, .int 0] (Nat.le_of_ble_eq_true rfl) rfl (fun i M hi hM C' N' hC => iteT ⟨_, rfl, _, rfl, (by decide : (0 : Int) < 6), hC M Mle.refl⟩) fun m0 hm0 => ?_
    refine ⟨rfl, fun a dx na => c_init (by decide) mu_same fun p m1 A1 => ⟨rfl, ?_⟩⟩
    obtain ⟨dx1, ho1⟩ := A1.ob
    refine ⟨_, rfl, a, dx1, _, rfl, ho1, fl_no _ _ (by decide +kernel) (by decide +kernel), ?_⟩
    refine ⟨_, rfl, 0, _, .d (.int 1), rfl, rfl, at_nat (n := 0) rfl, ?_⟩
    refine ⟨rfl, rfl, ?_⟩
    refine c_req A1 (i := 1) (k := 5) (rs' := ([⟨5, 1, true⟩] : List Rq)) (b := true) rfl rfl (fun m2 hm2 A2 => ?_)
    obtain ⟨dx2, ho2⟩ := A2.ob
    refine ⟨_, rfl, a, dx2, _, rfl, ho2, fl_no _ _ (by decide +kernel) (by decide +kernel), ?_⟩
    refine ⟨_, rfl, 1, _, .d (.int 2), rfl, rfl, at_nat (n := 1) rfl, ?_⟩
    refine ⟨rfl, rfl, ?_⟩
    refine c_req A2 (i := 2) (k := 7) (rs' := ([⟨5, 1, true⟩, ⟨7, 2, false⟩] : List Rq)) (b := false) rfl rfl (fun m3 hm3 A3 => ?_)
    refine ⟨Nat.le_of_ble_eq_true rfl, fun q nq => ?_⟩
    have hqp : q ≠ p := fun e => by rw [e, A3.ls] at nq; cases nq
    have hqa : q ≠ a := fun e => by obtain ⟨dz, hz⟩ := A3.ob; rw [e, hz] at nq; cases nq
    have A4 : At C2 (mu m3 q (.lst [.d (.bool true), .d (.bool false)])) a 1 p ([⟨5, 1, true⟩, ⟨7, 2, false⟩] : List Rq) := ⟨A3.ob.imp fun _ e => (mu_ne hqa.symm).trans e, (mu_ne hqp.symm).trans A3.ls⟩
    have hq4 : (mu m3 q (.lst [.d (.bool true), .d (.bool false)])) q = some (.lst [.d (.bool true), .d (.bool false)]) := mu_same
    refine ⟨_, rfl, .inl ⟨rfl, _, hq4⟩, ?_⟩
    obtain ⟨dx4, ho4⟩ := A4.ob
    refine ⟨_, rfl, a, dx4, _, rfl, ho4, fl_no _ _ (by decide +kernel) (by decide +kernel), ?_⟩
    refine ⟨_, rfl, 2, _, .d (.int 3), rfl, rfl, at_nat (n := 2) rfl, ?_⟩
    refine ⟨_, rfl, 0, _, .d (.int 1), rfl, rfl, at_nat (n := 0) rfl, ?_⟩
    refine ⟨_, rfl, 1, _, .d (.int 2), rfl, rfl, at_nat (n := 1) rfl, ?_⟩
    refine ⟨Nat.le_of_ble_eq_true rfl, mkT_l (ds := [.int 1, .int 2]) rfl ?_⟩
    refine ⟨rfl, rfl, ?_⟩
    refine c_pre A4 (i := 3) (k := 3) (vs := [1, 2]) (rs' := ([⟨5, 1, false⟩, ⟨7, 2, false⟩, ⟨3, 3, true⟩] : List Rq)) (v := 1) (by first | rfl | kernel_rfl) (fun m5 hm5 A5 => ?_)
    have hq5 := hm5 _ _ (by rw [mu_ne hqp]; exact hq4)
    refine ⟨q, _, _, rfl, rfl, hq5, Nat.le_of_ble_eq_true rfl, ?_⟩
    have A6 : At C2 (mu m5 q (.lst [.d (.bool true), .d (.bool false), .d (.int 1)])) a 1 p ([⟨5, 1, false⟩, ⟨7, 2, false⟩, ⟨3, 3, true⟩] : List Rq) := ⟨A5.ob.imp fun _ e => (mu_ne hqa.symm).trans e, (mu_ne hqp.symm).trans A5.ls⟩
    have hq6 : (mu m5 q (.lst [.d (.bool true), .d (.bool false), .d (.int 1)])) q = some (.lst [.d (.bool true), .d (.bool false), .d (.int 1)]) := mu_same
    refine ⟨_, rfl, ?_⟩
    obtain ⟨dx6, ho6⟩ := A6.ob
    refine ⟨_, rfl, a, dx6, _, rfl, ho6, fl_no _ _ (by decide +kernel) (by decide +kernel), ?_⟩
    refine c_hold A6 (L := [.tuple [.int 3, .int 3]]) rfl (fun m7 hm7 A7 => ?_)
    have hq7 := hm7 _ _ hq6
    obtain ⟨dx7, ho7⟩ := A7.ob
    refine ⟨_, rfl, a, dx7, _, rfl, ho7, fl_no _ _ (by decide +kernel) (by decide +kernel), ?_⟩
    refine c_wait A7 (L := [.tuple [.int 5, .int 1], .tuple [.int 7, .int 2]]) (wait_c (sv_c (I := [0, 1]) (L := [(5, 0), (7, 1)]) (by decide) (by decide) rfl) rfl) (fun m8 hm8 A8 => ?_)
    have hq8 := hm8 _ _ hq7
    obtain ⟨dx8, ho8⟩ := A8.ob
    refine ⟨_, rfl, a, dx8, _, rfl, ho8, fl_no _ _ (by decide +kernel) (by decide +kernel), ?_⟩
    refine ⟨_, rfl, 2, _, .d (.int 3), rfl, rfl, at_nat (n := 2) rfl, ?_⟩
    refine ⟨rfl, rfl, ?_⟩
    refine c_rel A8 (i := 3) (rs' := ([⟨5, 1, true⟩, ⟨7, 2, false⟩] : List Rq)) (d := .int 1) (rel_c (j := 2) rfl (sv_c (I := [0, 1]) (L := [(5, 0), (7, 1)]) (by decide) (by decide) rfl) rfl) (fun m9 hm9 A9 => ?_)
    have hq9 := hm9 _ _ (by rw [mu_ne hqp]; exact hq8)
    obtain ⟨dx9, ho9⟩ := A9.ob
    refine ⟨_, rfl, a, dx9, _, rfl, ho9, c_free A9 (v := 0) rfl fun m10 hm10 A10 => ?_⟩
    have hq10 := hm10 _ _ hq9
    obtain ⟨dx10, ho10⟩ := A10.ob
    refine ⟨_, rfl, a, dx10, _, rfl, ho10, c_len A10 (v := 1) (L := [.tuple [.int 7, .int 2]]) (wait_c (sv_c (I := [1]) (L := [(7, 1)]) (by decide) (by decide) rfl) rfl) rfl fun m11 hm11 A11 => ?_⟩
    have hq11 := hm11 _ _ hq10
    obtain ⟨dx11, ho11⟩ := A11.ob
    refine ⟨_, rfl, a, dx11, _, rfl, ho11, c_rep A11 (t := "PreemptLine(1 units, 1 waiting)") (L := [.tuple [.int 7, .int 2]]) (wait_c (sv_c (I := [1]) (L := [(7, 1)]) (by decide) (by decide) rfl) rfl) (by decide +kernel) (by decide +kernel) fun m12 hm12 A12 => ⟨_, rfl, ?_⟩⟩
    have hq12 := hm12 _ _ hq11
    refine ⟨Nat.le_of_ble_eq_true rfl, [.tuple [.tuple [.int 3, .int 3]], .tuple [.tuple [.int 5, .int 1], .tuple [.int 7, .int 2]], .int 1, .int 0, .int 1, .str "PreemptLine(1 units, 1 waiting)"], rfl, ?_⟩
    refine ⟨_, _, [.bool true, .bool false, .int 1, .tuple [.tuple [.int 3, .int 3]], .tuple [.tuple [.int 5, .int 1], .tuple [.int 7, .int 2]], .int 1, .int 0, .int 1, .str "PreemptLine(1 units, 1 waiting)"], hq12, rfl, Nat.le_of_ble_eq_true rfl, rfl, ?_⟩
    refine ⟨_, rfl, 0, _, .d (.int 1), rfl, rfl, at_nat (n := 0) rfl, ?_⟩
    refine ⟨_, rfl, 2, _, .d (.int 3), rfl, rfl, at_nat (n := 2) rfl, ?_⟩
    refine ⟨Nat.le_of_ble_eq_true rfl, mkT_l (ds := [.int 3, .int 3]) rfl ?_⟩
    refine ⟨Nat.le_of_ble_eq_true rfl, mkT_l (ds := [.tuple [.int 3, .int 3]]) rfl ?_⟩
    refine ⟨_, rfl, 0, _, .d (.int 1), rfl, rfl, at_nat (n := 0) rfl, ?_⟩
    refine ⟨Nat.le_of_ble_eq_true rfl, mkT_l (ds := [.int 5, .int 1]) rfl ?_⟩
    refine ⟨_, rfl, 1, _, .d (.int 2), rfl, rfl, at_nat (n := 1) rfl, ?_⟩
    refine ⟨Nat.le_of_ble_eq_true rfl, mkT_l (ds := [.int 7, .int 2]) rfl ?_⟩
    refine ⟨Nat.le_of_ble_eq_true rfl, mkT_l (ds := [.tuple [.int 5, .int 1], .tuple [.int 7, .int 2]]) rfl ?_⟩
    refine ⟨_, rfl, 0, _, .d (.int 1), rfl, rfl, at_nat (n := 0) rfl, ?_⟩
    refine ⟨Nat.le_of_ble_eq_true rfl, [.bool true, .bool false, .int 1, .tuple [.tuple [.int 3, .int 3]], .tuple [.tuple [.int 5, .int 1], .tuple [.int 7, .int 2]], .int 1, .int 0, .int 1], rfl, ?_⟩
    refine ⟨_, rfl, ?_⟩
    refine ⟨_, rfl, ?_⟩
    refine ⟨Nat.le_of_ble_eq_true rfl, [.str "PreemptLine(1 units, 1 waiting)"], rfl, ?_⟩
    refine ⟨_, _, [.bool true, .bool false, .int 1, .tuple [.tuple [.int 3, .int 3]], .tuple [.tuple [.int 5, .int 1], .tuple [.int 7, .int 2]], .int 1, .int 0, .int 1, .str "PreemptLine(1 units, 1 waiting)"], rfl, rfl, Nat.le_of_ble_eq_true rfl, rfl, ?_⟩
    exact ⟨.list [.bool true, .bool false, .int 1, .tuple [.tuple [.int 3, .int 3]], .tuple [.tuple [.int 5, .int 1], .tuple [.int 7, .int 2]], .int 1, .int 0, .int 1, .str "PreemptLine(1 units, 1 waiting)"], rfl, ⟨by decide +kernel, by decide +kernel, by decide +kernel, by decide +kernel⟩, h _⟩
  · refine ⟨6, rfl, by decide, by decide, ?_⟩
    refine lc_rngE (fun i => .int (((0 + (i : Int)) + 2) % 6)) [.int 2, .int 3, .int 4, .int 5, .int 0, .int 1] (Nat.le_of_ble_eq_true rfl) rfl (fun i M hi hM C' N' hC => iteT ⟨_, rfl, _, rfl, (by decide : (0 : Int) < 6), hC M Mle.refl⟩) fun m0 hm0 => ?_
    refine ⟨rfl, fun a dx na => c_init (by decide) mu_same fun p m1 A1 => ⟨rfl, ?_⟩⟩
    obtain ⟨dx1, ho1⟩ := A1.ob
    refine ⟨_, rfl, a, dx1, _, rfl, ho1, fl_no _ _ (by decide +kernel) (by decide +kernel), ?_⟩
    refine ⟨_, rfl, 0, _, .d (.int 2), rfl, rfl, at_nat (n := 0) rfl, ?_⟩
    refine ⟨rfl, rfl, ?_⟩
    refine c_req A1 (i := 2) (k := 5) (rs' := ([⟨5, 2, true⟩] : List Rq)) (b := true) rfl rfl (fun m2 hm2 A2 => ?_)
    obtain ⟨dx2, ho2⟩ := A2.ob
    refine ⟨_, rfl, a, dx2, _, rfl, ho2, fl_no _ _ (by decide +kernel) (by decide +kernel), ?_⟩
    refine ⟨_, rfl, 1, _, .d (.int 3), rfl, rfl, at_nat (n := 1) rfl, ?_⟩
    refine ⟨rfl, rfl, ?_⟩
    refine c_req A2 (i := 3) (k := 7) (rs' := ([⟨5, 2, true⟩, ⟨7, 3, false⟩] : List Rq)) (b := false) rfl rfl (fun m3 hm3 A3 => ?_)
    refine ⟨Nat.le_of_ble_eq_true rfl, fun q nq => ?_⟩
    have hqp : q ≠ p := fun e => by rw [e, A3.ls] at nq; cases nq
    have hqa : q ≠ a := fun e => by obtain ⟨dz, hz⟩ := A3.ob; rw [e, hz] at nq; cases nq
    have A4 : At C2 (mu m3 q (.lst [.d (.bool true), .d (.bool false)])) a 1 p ([⟨5, 2, true⟩, ⟨7, 3, false⟩] : List Rq) := ⟨A3.ob.imp fun _ e => (mu_ne hqa.symm).trans e, (mu_ne hqp.symm).trans A3.ls⟩
    have hq4 : (mu m3 q (.lst [.d (.bool true), .d (.bool false)])) q = some (.lst [.d (.bool true), .d (.bool false)]) := mu_same
    refine ⟨_, rfl, .inl ⟨rfl, _, hq4⟩, ?_⟩
    obtain ⟨dx4, ho4⟩ := A4.ob
    refine ⟨_, rfl, a, dx4, _, rfl, ho4, fl_no _ _ (by decide +kernel) (by decide +kernel), ?_⟩
    refine ⟨_, rfl, 2, _, .d (.int 4), rfl, rfl, at_nat (n := 2) rfl, ?_⟩
    refine ⟨_, rfl, 0, _, .d (.int 2), rfl, rfl, at_nat (n := 0) rfl, ?_⟩
    refine ⟨_, rfl, 1, _, .d (.int 3), rfl, rfl, at_nat (n := 1) rfl, ?_⟩
    refine ⟨Nat.le_of_ble_eq_true rfl, mkT_l (ds := [.int 2, .int 3]) rfl ?_⟩
    refine ⟨rfl, rfl, ?_⟩
    refine c_pre A4 (i := 4) (k := 3) (vs := [2, 3]) (rs' := ([⟨5, 2, false⟩, ⟨7, 3, false⟩, ⟨3, 4, true⟩] : List Rq)) (v := 2) (by first | rfl | kernel_rfl) (fun m5 hm5 A5 => ?_)
    have hq5 := hm5 _ _ (by rw [mu_ne hqp]; exact hq4)
    refine ⟨q, _, _, rfl, rfl, hq5, Nat.le_of_ble_eq_true rfl, ?_⟩
    have A6 : At C2 (mu m5 q (.lst [.d (.bool true), .d (.bool false), .d (.int 2)])) a 1 p ([⟨5, 2, false⟩, ⟨7, 3, false⟩, ⟨3, 4, true⟩] : List Rq) := ⟨A5.ob.imp fun _ e => (mu_ne hqa.symm).trans e, (mu_ne hqp.symm).trans A5.ls⟩
    have hq6 : (mu m5 q (.lst [.d (.bool true), .d (.bool false), .d (.int 2)])) q = some (.lst [.d (.bool true), .d (.bool false), .d (.int 2)]) := mu_same
    refine ⟨_, rfl, ?_⟩
    obtain ⟨dx6, ho6⟩ := A6.ob
    refine ⟨_, rfl, a, dx6, _, rfl, ho6, fl_no _ _ (by decide +kernel) (by decide +kernel), ?_⟩
    refine c_hold A6 (L := [.tuple [.int 3, .int 4]]) rfl (fun m7 hm7 A7 => ?_)
    have hq7 := hm7 _ _ hq6
    obtain ⟨dx7, ho7⟩ := A7.ob
    refine ⟨_, rfl, a, dx7, _, rfl, ho7, fl_no _ _ (by decide +kernel) (by decide +kernel), ?_⟩
    refine c_wait A7 (L := [.tuple [.int 5, .int 2], .tuple [.int 7, .int 3]]) (wait_c (sv_c (I := [0, 1]) (L := [(5, 0), (7, 1)]) (by decide) (by decide) rfl) rfl) (fun m8 hm8 A8 => ?_)
    have hq8 := hm8 _ _ hq7
    obtain ⟨dx8, ho8⟩ := A8.ob
    refine ⟨_, rfl, a, dx8, _, rfl, ho8, fl_no _ _ (by decide +kernel) (by decide +kernel), ?_⟩
    refine ⟨_, rfl, 2, _, .d (.int 4), rfl, rfl, at_nat (n := 2) rfl, ?_⟩
    refine ⟨rfl, rfl, ?_⟩
    refine c_rel A8 (i := 4) (rs' := ([⟨5, 2, true⟩, ⟨7, 3, false⟩] : List Rq)) (d := .int 2) (rel_c (j := 2) rfl (sv_c (I := [0, 1]) (L := [(5, 0), (7, 1)]) (by decide) (by decide) rfl) rfl) (fun m9 hm9 A9 => ?_)
    have hq9 := hm9 _ _ (by rw [mu_ne hqp]; exact hq8)
    obtain ⟨dx9, ho9⟩ := A9.ob
    refine ⟨_, rfl, a, dx9, _, rfl, ho9, c_free A9 (v := 0) rfl fun m10 hm10 A10 => ?_⟩
    have hq10 := hm10 _ _ hq9
    obtain ⟨dx10, ho10⟩ := A10.ob
    refine ⟨_, rfl, a, dx10, _, rfl, ho10, c_len A10 (v := 1) (L := [.tuple [.int 7, .int 3]]) (wait_c (sv_c (I := [1]) (L := [(7, 1)]) (by decide) (by decide) rfl) rfl) rfl fun m11 hm11 A11 => ?_⟩
    have hq11 := hm11 _ _ hq10
    obtain ⟨dx11, ho11⟩ := A11.ob
    refine ⟨_, rfl, a, dx11, _, rfl, ho11, c_rep A11 (t := "PreemptLine(1 units, 1 waiting)") (L := [.tuple [.int 7, .int 3]]) (wait_c (sv_c (I := [1]) (L := [(7, 1)]) (by decide) (by decide) rfl) rfl) (by decide +kernel) (by decide +kernel) fun m12 hm12 A12 => ⟨_, rfl, ?_⟩⟩
    have hq12 := hm12 _ _ hq11
    refine ⟨Nat.le_of_ble_eq_true rfl, [.tuple [.tuple [.int 3, .int 4]], .tuple [.tuple [.int 5, .int 2], .tuple [.int 7, .int 3]], .int 2, .int 0, .int 1, .str "PreemptLine(1 units, 1 waiting)"], rfl, ?_⟩
    refine ⟨_, _, [.bool true, .bool false, .int 2, .tuple [.tuple [.int 3, .int 4]], .tuple [.tuple [.int 5, .int 2], .tuple [.int 7, .int 3]], .int 2, .int 0, .int 1, .str "PreemptLine(1 units, 1 waiting)"], hq12, rfl, Nat.le_of_ble_eq_true rfl, rfl, ?_⟩
    refine ⟨_, rfl, 0, _, .d (.int 2), rfl, rfl, at_nat (n := 0) rfl, ?_⟩
    refine ⟨_, rfl, 2, _, .d (.int 4), rfl, rfl, at_nat (n := 2) rfl, ?_⟩
    refine ⟨Nat.le_of_ble_eq_true rfl, mkT_l (ds := [.int 3, .int 4]) rfl ?_⟩
    refine ⟨Nat.le_of_ble_eq_true rfl, mkT_l (ds := [.tuple [.int 3, .int 4]]) rfl ?_⟩
    refine ⟨_, rfl, 0, _, .d (.int 2), rfl, rfl, at_nat (n := 0) rfl, ?_⟩
    refine ⟨Nat.le_of_ble_eq_true rfl, mkT_l (ds := [.int 5, .int 2]) rfl ?_⟩
    refine ⟨_, rfl, 1, _, .d (.int 3), rfl, rfl, at_nat (n := 1) rfl, ?_⟩
    refine ⟨Nat.le_of_ble_eq_true rfl, mkT_l (ds := [.int 7, .int 3]) rfl ?_⟩
    refine ⟨Nat.le_of_ble_eq_true rfl, mkT_l (ds := [.tuple [.int 5, .int 2], .tuple [.int 7, .int 3]]) rfl ?_⟩
    refine ⟨_, rfl, 0, _, .d (.int 2), rfl, rfl, at_nat (n := 0) rfl, ?_⟩
    refine ⟨Nat.le_of_ble_eq_true rfl, [.bool true, .bool false, .int 2, .tuple [.tuple [.int 3, .int 4]], .tuple [.tuple [.int 5, .int 2], .tuple [.int 7, .int 3]], .int 2, .int 0, .int 1], rfl, ?_⟩
    refine ⟨_, rfl, ?_⟩
    refine ⟨_, rfl, ?_⟩
    refine ⟨Nat.le_of_ble_eq_true rfl, [.str "PreemptLine(1 units, 1 waiting)"], rfl, ?_⟩
    refine ⟨_, _, [.bool true, .bool false, .int 2, .tuple [.tuple [.int 3, .int 4]], .tuple [.tuple [.int 5, .int 2], .tuple [.int 7, .int 3]], .int 2, .int 0, .int 1, .str "PreemptLine(1 units, 1 waiting)"], rfl, rfl, Nat.le_of_ble_eq_true rfl, rfl, ?_⟩
    exact ⟨.list [.bool true, .bool false, .int 2, .tuple [.tuple [.int 3, .int 4]], .tuple [.tuple [.int 5, .int 2], .tuple [.int 7, .int 3]], .int 2, .int 0, .int 1, .str "PreemptLine(1 units, 1 waiting)"], rfl, ⟨by decide +kernel, by decide +kernel, by decide +kernel, by decide +kernel⟩, h _⟩
  · refine ⟨6, rfl, by decide, by decide, ?_⟩
    refine lc_rngE (fun i => .int (((0 + (i : Int)) + 3) % 6)) [.int 3, .int 4, .int 5, .int 0, .int 1, .int 2] (Nat.le_of_ble_eq_true rfl) rfl (fun i M hi hM C' N' hC => iteT ⟨_, rfl, _, rfl, (by decide : (0 : Int) < 6), hC M Mle.refl⟩) fun m0 hm0 => ?_
    refine ⟨rfl, fun a dx na => c_init (by decide) mu_same fun p m1 A1 => ⟨rfl, ?_⟩⟩
    obtain ⟨dx1, ho1⟩ := A1.ob
    refine ⟨_, rfl, a, dx1, _, rfl, ho1, fl_no _ _ (by decide +kernel) (by decide +kernel), ?_⟩
    refine ⟨_, rfl, 0, _, .d (.int 3), rfl, rfl, at_nat (n := 0) rfl, ?_⟩
    refine ⟨rfl, rfl, ?_⟩
    refine c_req A1 (i := 3) (k := 5) (rs' := ([⟨5, 3, true⟩] : List Rq)) (b := true) rfl rfl (fun m2 hm2 A2 => ?_)
    obtain ⟨dx2, ho2⟩ := A2.ob
    refine ⟨_, rfl, a, dx2, _, rfl, ho2, fl_no _ _ (by decide +kernel) (by decide +kernel), ?_⟩
    refine ⟨_, rfl, 1, _, .d (.int 4), rfl, rfl, at_nat (n := 1) rfl, ?_⟩
    refine ⟨rfl, rfl, ?_⟩
    refine c_req A2 (i := 4) (k := 7) (rs' := ([⟨5, 3, true⟩, ⟨7, 4, false⟩] : List Rq)) (b := false) rfl rfl (fun m3 hm3 A3 => ?_)
    refine ⟨Nat.le_of_ble_eq_true rfl, fun q nq => ?_⟩
    have hqp : q ≠ p := fun e => by rw [e, A3.ls] at nq; cases nq
    have hqa : q ≠ a := fun e => by obtain ⟨dz, hz⟩ := A3.ob; rw [e, hz] at nq; cases nq
    have A4 : At C2 (mu m3 q (.lst [.d (.bool true), .d (.bool false)])) a 1 p ([⟨5, 3, true⟩, ⟨7, 4, false⟩] : List Rq) := ⟨A3.ob.imp fun _ e => (mu_ne hqa.symm).trans e, (mu_ne hqp.symm).trans A3.ls⟩
    have hq4 : (mu m3 q (.lst [.d (.bool true), .d (.bool false)])) q = some (.lst [.d (.bool true), .d (.bool false)]) := mu_same
    refine ⟨_, rfl, .inl ⟨rfl, _, hq4⟩, ?_⟩
    obtain ⟨dx4, ho4⟩ := A4.ob
    refine ⟨_, rfl, a, dx4, _, rfl, ho4, fl_no _ _ (by decide +kernel) (by decide +kernel), ?_⟩
    refine ⟨_, rfl, 2, _, .d (.int 5), rfl, rfl, at_nat (n := 2) rfl, ?_⟩
    refine ⟨_, rfl, 0, _, .d (.int 3), rfl, rfl, at_nat (n := 0) rfl, ?_⟩
    refine ⟨_, rfl, 1, _, .d (.int 4), rfl, rfl, at_nat (n := 1) rfl, ?_⟩
    refine ⟨Nat.le_of_ble_eq_true rfl, mkT_l (ds := [.int 3, .int 4]) rfl ?_⟩
    refine ⟨rfl, rfl, ?_⟩
    refine c_pre A4 (i := 5) (k := 3) (vs := [3, 4]) (rs' := ([⟨5, 3, false⟩, ⟨7, 4, false⟩, ⟨3, 5, true⟩] : List Rq)) (v := 3) (by first | rfl | kernel_rfl) (fun m5 hm5 A5 => ?_)
    have hq5 := hm5 _ _ (by rw [mu_ne hqp]; exact hq4)
    refine ⟨q, _, _, rfl, rfl, hq5, Nat.le_of_ble_eq_true rfl, ?_⟩
    have A6 : At C2 (mu m5 q (.lst [.d (.bool true), .d (.bool false), .d (.int 3)])) a 1 p ([⟨5, 3, false⟩, ⟨7, 4, false⟩, ⟨3, 5, true⟩] : List Rq) := ⟨A5.ob.imp fun _ e => (mu_ne hqa.symm).trans e, (mu_ne hqp.symm).trans A5.ls⟩
    have hq6 : (mu m5 q (.lst [.d (.bool true), .d (.bool false), .d (.int 3)])) q = some (.lst [.d (.bool true), .d (.bool false), .d (.int 3)]) := mu_same
    refine ⟨_, rfl, ?_⟩
    obtain ⟨dx6, ho6⟩ := A6.ob
    refine ⟨_, rfl, a, dx6, _, rfl, ho6, fl_no _ _ (by decide +kernel) (by decide +kernel), ?_⟩
    refine c_hold A6 (L := [.tuple [.int 3, .int 5]]) rfl (fun m7 hm7 A7 => ?_)
    have hq7 := hm7 _ _ hq6
    obtain ⟨dx7, ho7⟩ := A7.ob
    refine ⟨_, rfl, a, dx7, _, rfl, ho7, fl_no _ _ (by decide +kernel) (by decide +kernel), ?_⟩
    refine c_wait A7 (L := [.tuple [.int 5, .int 3], .tuple [.int 7, .int 4]]) (wait_c (sv_c (I := [0, 1]) (L := [(5, 0), (7, 1)]) (by decide) (by decide) rfl) rfl) (fun m8 hm8 A8 => ?_)
    have hq8 := hm8 _ _ hq7
    obtain ⟨dx8, ho8⟩ := A8.ob
    refine ⟨_, rfl, a, dx8, _, rfl, ho8, fl_no _ _ (by decide +kernel) (by decide +kernel), ?_⟩
    refine ⟨_, rfl, 2, _, .d (.int 5), rfl, rfl, at_nat (n := 2) rfl, ?_⟩
    refine ⟨rfl, rfl, ?_⟩
    refine c_rel A8 (i := 5) (rs' := ([⟨5, 3, true⟩, ⟨7, 4, false⟩] : List Rq)) (d := .int 3) (rel_c (j := 2) rfl (sv_c (I := [0, 1]) (L := [(5, 0), (7, 1)]) (by decide) (by decide) rfl) rfl) (fun m9 hm9 A9 => ?_)
    have hq9 := hm9 _ _ (by rw [mu_ne hqp]; exact hq8)
    obtain ⟨dx9, ho9⟩ := A9.ob
    refine ⟨_, rfl, a, dx9, _, rfl, ho9, c_free A9 (v := 0) rfl fun m10 hm10 A10 => ?_⟩
    have hq10 := hm10 _ _ hq9
    obtain ⟨dx10, ho10⟩ := A10.ob
    refine ⟨_, rfl, a, dx10, _, rfl, ho10, c_len A10 (v := 1) (L := [.tuple [.int 7, .int 4]]) (wait_c (sv_c (I := [1]) (L := [(7, 1)]) (by decide) (by decide) rfl) rfl) rfl fun m11 hm11 A11 => ?_⟩
    have hq11 := hm11 _ _ hq10
    obtain ⟨dx11, ho11⟩ := A11.ob
    refine ⟨_, rfl, a, dx11, _, rfl, ho11, c_rep A11 (t := "PreemptLine(1 units, 1 waiting)") (L := [.tuple [.int 7, .int 4]]) (wait_c (sv_c (I := [1]) (L := [(7, 1)]) (by decide) (by decide) rfl) rfl) (by decide +kernel) (by decide +kernel) fun m12 hm12 A12 => ⟨_, rfl, ?_⟩⟩
    have hq12 := hm12 _ _ hq11
    refine ⟨Nat.le_of_ble_eq_true rfl, [.tuple [.tuple [.int 3, .int 5]], .tuple [.tuple [.int 5, .int 3], .tuple [.int 7, .int 4]], .int 3, .int 0, .int 1, .str "PreemptLine(1 units, 1 waiting)"], rfl, ?_⟩
    refine ⟨_, _, [.bool true, .bool false, .int 3, .tuple [.tuple [.int 3, .int 5]], .tuple [.tuple [.int 5, .int 3], .tuple [.int 7, .int 4]], .int 3, .int 0, .int 1, .str "PreemptLine(1 units, 1 waiting)"], hq12, rfl, Nat.le_of_ble_eq_true rfl, rfl, ?_⟩
    refine ⟨_, rfl, 0, _, .d (.int 3), rfl, rfl, at_nat (n := 0) rfl, ?_⟩
    refine ⟨_, rfl, 2, _, .d (.int 5), rfl, rfl, at_nat (n := 2) rfl, ?_⟩
    refine ⟨Nat.le_of_ble_eq_true rfl, mkT_l (ds := [.int 3, .int 5]) rfl ?_⟩
    refine ⟨Nat.le_of_ble_eq_true rfl, mkT_l (ds := [.tuple [.int 3, .int 5]]) rfl ?_⟩
    refine ⟨_, rfl, 0, _, .d (.int 3), rfl, rfl, at_nat (n := 0) rfl, ?_⟩
    refine ⟨Nat.le_of_ble_eq_true rfl, mkT_l (ds := [.int 5, .int 3]) rfl ?_⟩
    refine ⟨_, rfl, 1, _, .d (.int 4), rfl, rfl, at_nat (n := 1) rfl, ?_⟩
    refine ⟨Nat.le_of_ble_eq_true rfl, mkT_l (ds := [.int 7, .int 4]) rfl ?_⟩
    refine ⟨Nat.le_of_ble_eq_true rfl, mkT_l (ds := [.tuple [.int 5, .int 3], .tuple [.int 7, .int 4]]) rfl ?_⟩
    refine ⟨_, rfl, 0, _, .d (.int 3), rfl, rfl, at_nat (n := 0) rfl, ?_⟩
    refine ⟨Nat.le_of_ble_eq_true rfl, [.bool true, .bool false, .int 3, .tuple [.tuple [.int 3, .int 5]], .tuple [.tuple [.int 5, .int 3], .tuple [.int 7, .int 4]], .int 3, .int 0, .int 1], rfl, ?_⟩
    refine ⟨_, rfl, ?_⟩
    refine ⟨_, rfl, ?_⟩
    refine ⟨Nat.le_of_ble_eq_true rfl, [.str "PreemptLine(1 units, 1 waiting)"], rfl, ?_⟩
    refine ⟨_, _, [.bool true, .bool false, .int 3, .tuple [.tuple [.int 3, .int 5]], .tuple [.tuple [.int 5, .int 3], .tuple [.int 7, .int 4]], .int 3, .int 0, .int 1, .str "PreemptLine(1 units, 1 waiting)"], rfl, rfl, Nat.le_of_ble_eq_true rfl, rfl, ?_⟩
    exact ⟨.list [.bool true, .bool false, .int 3, .tuple [.tuple [.int 3, .int 5]], .tuple [.tuple [.int 5, .int 3], .tuple [.int 7, .int 4]], .int 3, .int 0, .int 1, .str "PreemptLine(1 units, 1 waiting)"], rfl, ⟨by decide +kernel, by decide +kernel, by decide +kernel, by decide +kernel⟩, h _⟩
  · refine ⟨6, rfl, by decide, by decide, ?_⟩
    refine lc_rngE (fun i => .int (((0 + (i : Int)) + 4) % 6)) [.int 4, .int 5, .int 0, .int 1, .int 2, .int 3] (Nat.le_of_ble_eq_true rfl) rfl (fun i M hi hM C' N' hC => iteT ⟨_, rfl, _, rfl, (by decide : (0 : Int) < 6), hC M Mle.refl⟩) fun m0 hm0 => ?_
    refine ⟨rfl, fun a dx na => c_init (by decide) mu_same fun p m1 A1 => ⟨rfl, ?_⟩⟩
    obtain ⟨dx1, ho1⟩ := A1.ob
    refine ⟨_, rfl, a, dx1, _, rfl, ho1, fl_no _ _ (by decide +kernel) (by decide +kernel), ?_⟩
    refine ⟨_, rfl, 0, _, .d (.int 4), rfl, rfl, at_nat (n := 0) rfl, ?_⟩
    refine ⟨rfl, rfl, ?_⟩
    refine c_req A1 (i := 4) (k := 5) (rs' := ([⟨5, 4, true⟩] : List Rq)) (b := true) rfl rfl (fun m2 hm2 A2 => ?_)
    obtain ⟨dx2, ho2⟩ := A2.ob
    refine ⟨_, rfl, a, dx2, _, rfl, ho2, fl_no _ _ (by decide +kernel) (by decide +kernel), ?_⟩
    refine ⟨_, rfl, 1, _, .d (.int 5), rfl, rfl, at_nat (n := 1) rfl, ?_⟩
    refine ⟨rfl, rfl, ?_⟩
    refine c_req A2 (i := 5) (k := 7) (rs' := ([⟨5, 4, true⟩, ⟨7, 5, false⟩] : List Rq)) (b := false) rfl rfl (fun m3 hm3 A3 => ?_)
    refine ⟨Nat.le_of_ble_eq_true rfl, fun q nq => ?_⟩
    have hqp : q ≠ p := fun e => by rw [e, A3.ls] at nq; cases nq
    have hqa : q ≠ a := fun e => by obtain ⟨dz, hz⟩ := A3.ob; rw [e, hz] at nq; cases nq
    have A4 : At C2 (mu m3 q (.lst [.d (.bool true), .d (.bool false)])) a 1 p ([⟨5, 4, true⟩, ⟨7, 5, false⟩] : List Rq) := ⟨A3.ob.imp fun _ e => (mu_ne hqa.symm).trans e, (mu_ne hqp.symm).trans A3.ls⟩
    have hq4 : (mu m3 q (.lst [.d (.bool true), .d (.bool false)])) q = some (.lst [.d (.bool true), .d (.bool false)]) := mu_same
    refine ⟨_, rfl, .inl ⟨rfl, _, hq4⟩, ?_⟩
    obtain ⟨dx4, ho4⟩ := A4.ob
    refine ⟨_, rfl, a, dx4, _, rfl, ho4, fl_no _ _ (by decide +kernel) (by decide +kernel), ?_⟩
    refine ⟨_, rfl, 2, _, .d (.int 0), rfl, rfl, at_nat (n := 2) rfl, ?_⟩
    refine ⟨_, rfl, 0, _, .d (.int 4), rfl, rfl, at_nat (n := 0) rfl, ?_⟩
    refine ⟨_, rfl, 1, _, .d (.int 5), rfl, rfl, at_nat (n := 1) rfl, ?_⟩
    refine ⟨Nat.le_of_ble_eq_true rfl, mkT_l (ds := [.int 4, .int 5]) rfl ?_⟩
    refine ⟨rfl, rfl, ?_⟩
    refine c_pre A4 (i := 0) (k := 3) (vs := [4, 5]) (rs' := ([⟨5, 4, false⟩, ⟨7, 5, false⟩, ⟨3, 0, true⟩] : List Rq)) (v := 4) (by first | rfl | kernel_rfl) (fun m5 hm5 A5 => ?_)
    have hq5 := hm5 _ _ (by rw [mu_ne hqp]; exact hq4)
    refine ⟨q, _, _, rfl, rfl, hq5, Nat.le_of_ble_eq_true rfl, ?_⟩
    have A6 : At C2 (mu m5 q (.lst [.d (.bool true), .d (.bool false), .d (.int 4)])) a 1 p ([⟨5, 4, false⟩, ⟨7, 5, false⟩, ⟨3, 0, true⟩] : List Rq) := ⟨A5.ob.imp fun _ e => (mu_ne hqa.symm).trans e, (mu_ne hqp.symm).trans A5.ls⟩
    have hq6 : (mu m5 q (.lst [.d (.bool true), .d (.bool false), .d (.int 4)])) q = some (.lst [.d (.bool true), .d (.bool false), .d (.int 4)]) := mu_same
    refine ⟨_, rfl, ?_⟩
    obtain ⟨dx6, ho6⟩ := A6.ob
    refine ⟨_, rfl, a, dx6, _, rfl, ho6, fl_no _ _ (by decide +kernel) (by decide +kernel), ?_⟩
    refine c_hold A6 (L := [.tuple [.int 3, .int 0]]) rfl (fun m7 hm7 A7 => ?_)
    have hq7 := hm7 _ _ hq6
    obtain ⟨dx7, ho7⟩ := A7.ob
    refine ⟨_, rfl, a, dx7, _, rfl, ho7, fl_no _ _ (by decide +kernel) (by decide +kernel), ?_⟩
    refine c_wait A7 (L := [.tuple [.int 5, .int 4], .tuple [.int 7, .int 5]]) (wait_c (sv_c (I := [0, 1]) (L := [(5, 0), (7, 1)]) (by decide) (by decide) rfl) rfl) (fun m8 hm8 A8 => ?_)
    have hq8 := hm8 _ _ hq7
    obtain ⟨dx8, ho8⟩ := A8.ob
    refine ⟨_, rfl, a, dx8, _, rfl, ho8, fl_no _ _ (by decide +kernel) (by decide +kernel), ?_⟩
    refine ⟨_, rfl, 2, _, .d (.int 0), rfl, rfl, at_nat (n := 2) rfl, ?_⟩
    refine ⟨rfl, rfl, ?_⟩
    refine c_rel A8 (i := 0) (rs' := ([⟨5, 4, true⟩, ⟨7, 5, false⟩] : List Rq)) (d := .int 4) (rel_c (j := 2) rfl (sv_c (I := [0, 1]) (L := [(5, 0), (7, 1)]) (by decide) (by decide) rfl) rfl) (fun m9 hm9 A9 => ?_)
    have hq9 := hm9 _ _ (by rw [mu_ne hqp]; exact hq8)
    obtain ⟨dx9, ho9⟩ := A9.ob
    refine ⟨_, rfl, a, dx9, _, rfl, ho9, c_free A9 (v := 0) rfl fun m10 hm10 A10 => ?_⟩
    have hq10 := hm10 _ _ hq9
    obtain ⟨dx10, ho10⟩ := A10.ob
    refine ⟨_, rfl, a, dx10, _, rfl, ho10, c_len A10 (v := 1) (L := [.tuple [.int 7, .int 5]]) (wait_c (sv_c (I := [1]) (L := [(7, 1)]) (by decide) (by decide) rfl) rfl) rfl fun m11 hm11 A11 => ?_⟩
    have hq11 := hm11 _ _ hq10
    obtain ⟨dx11, ho11⟩ := A11.ob
    refine ⟨_, rfl, a, dx11, _, rfl, ho11, c_rep A11 (t := "PreemptLine(1 units, 1 waiting)") (L := [.tuple [.int 7, .int 5]]) (wait_c (sv_c (I := [1]) (L := [(7, 1)]) (by decide) (by decide) rfl) rfl) (by decide +kernel) (by decide +kernel) fun m12 hm12 A12 => ⟨_, rfl, ?_⟩⟩
    have hq12 := hm12 _ _ hq11
    refine ⟨Nat.le_of_ble_eq_true rfl, [.tuple [.tuple [.int 3, .int 0]], .tuple [.tuple [.int 5, .int 4], .tuple [.int 7, .int 5]], .int 4, .int 0, .int 1, .str "PreemptLine(1 units, 1 waiting)"], rfl, ?_⟩
    refine ⟨_, _, [.bool true, .bool false, .int 4, .tuple [.tuple [.int 3, .int 0]], .tuple [.tuple [.int 5, .int 4], .tuple [.int 7, .int 5]], .int 4, .int 0, .int 1, .str "PreemptLine(1 units, 1 waiting)"], hq12, rfl, Nat.le_of_ble_eq_true rfl, rfl, ?_⟩
    refine ⟨_, rfl, 0, _, .d (.int 4), rfl, rfl, at_nat (n := 0) rfl, ?_⟩
    refine ⟨_, rfl, 2, _, .d (.int 0), rfl, rfl, at_nat (n := 2) rfl, ?_⟩
    refine ⟨Nat.le_of_ble_eq_true rfl, mkT_l (ds := [.int 3, .int 0]) rfl ?_⟩
    refine ⟨Nat.le_of_ble_eq_true rfl, mkT_l (ds := [.tuple [.int 3, .int 0]]) rfl ?_⟩
    refine ⟨_, rfl, 0, _, .d (.int 4), rfl, rfl, at_nat (n := 0) rfl, ?_⟩
    refine ⟨Nat.le_of_ble_eq_true rfl, mkT_l (ds := [.int 5, .int 4]) rfl ?_⟩
    refine ⟨_, rfl, 1, _, .d (.int 5), rfl, rfl, at_nat (n := 1) rfl, ?_⟩
    refine ⟨Nat.le_of_ble_eq_true rfl, mkT_l (ds := [.int 7, .int 5]) rfl ?_⟩
    refine ⟨Nat.le_of_ble_eq_true rfl, mkT_l (ds := [.tuple [.int 5, .int 4], .tuple [.int 7, .int 5]]) rfl ?_⟩
    refine ⟨_, rfl, 0, _, .d (.int 4), rfl, rfl, at_nat (n := 0) rfl, ?_⟩
    refine ⟨Nat.le_of_ble_eq_true rfl, [.bool true, .bool false, .int 4, .tuple [.tuple [.int 3, .int 0]], .tuple [.tuple [.int 5, .int 4], .tuple [.int 7, .int 5]], .int 4, .int 0, .int 1], rfl, ?_⟩
    refine ⟨_, rfl, ?_⟩
    refine ⟨_, rfl, ?_⟩
    refine ⟨Nat.le_of_ble_eq_true rfl, [.str "PreemptLine(1 units, 1 waiting)"], rfl, ?_⟩
    refine ⟨_, _, [.bool true, .bool false, .int 4, .tuple [.tuple [.int 3, .int 0]], .tuple [.tuple [.int 5, .int 4], .tuple [.int 7, .int 5]], .int 4, .int 0, .int 1, .str "PreemptLine(1 units, 1 waiting)"], rfl, rfl, Nat.le_of_ble_eq_true rfl, rfl, ?_⟩
    exact ⟨.list [.bool true, .bool false, .int 4, .tuple [.tuple [.int 3, .int 0]], .tuple [.tuple [.int 5, .int 4], .tuple [.int 7, .int 5]], .int 4, .int 0, .int 1, .str "PreemptLine(1 units, 1 waiting)"], rfl, ⟨by decide +kernel, by decide +kernel, by decide +kernel, by decide +kernel⟩, h _⟩
  · refine ⟨6, rfl, by decide, by decide, ?_⟩
    refine lc_rngE (fun i => .int (((0 + (i : Int)) + 5) % 6)) [.int 5, .int 0, .int 1, .int 2, .int 3, .int 4] (Nat.le_of_ble_eq_true rfl) rfl (fun i M hi hM C' N' hC => iteT ⟨_, rfl, _, rfl, (by decide : (0 : Int) < 6), hC M Mle.refl⟩) fun m0 hm0 => ?_
    refine ⟨rfl, fun a dx na => c_init (by decide) mu_same fun p m1 A1 => ⟨rfl, ?_⟩⟩
    obtain ⟨dx1, ho1⟩ := A1.ob
    refine ⟨_, rfl, a, dx1, _, rfl, ho1, fl_no _ _ (by decide +kernel) (by decide +kernel), ?_⟩
    refine ⟨_, rfl, 0, _, .d (.int 5), rfl, rfl, at_nat (n := 0) rfl, ?_⟩
    refine ⟨rfl, rfl, ?_⟩
    refine c_req A1 (i := 5) (k := 5) (rs' := ([⟨5, 5, true⟩] : List Rq)) (b := true) rfl rfl (fun m2 hm2 A2 => ?_)
    obtain ⟨dx2, ho2⟩ := A2.ob
    refine ⟨_, rfl, a, dx2, _, rfl, ho2, fl_no _ _ (by decide +kernel) (by decide +kernel), ?_⟩
    refine ⟨_, rfl, 1, _, .d (.int 0), rfl, rfl, at_nat (n := 1) rfl, ?_⟩
    refine ⟨rfl, rfl, ?_⟩
    refine c_req A2 (i := 0) (k := 7) (rs' := ([⟨5, 5, true⟩, ⟨7, 0, false⟩] : List Rq)) (b := false) rfl rfl (fun m3 hm3 A3 => ?_)
    refine ⟨Nat.le_of_ble_eq_true rfl, fun q nq => ?_⟩
    have hqp : q ≠ p := fun e => by rw [e, A3.ls] at nq; cases nq
    have hqa : q ≠ a := fun e => by obtain ⟨dz, hz⟩ := A3.ob; rw [e, hz] at nq; cases nq
    have A4 : At C2 (mu m3 q (.lst [.d (.bool true), .d (.bool false)])) a 1 p ([⟨5, 5, true⟩, ⟨7, 0, false⟩] : List Rq) := ⟨A3.ob.imp fun _ e => (mu_ne hqa.symm).trans e, (mu_ne hqp.symm).trans A3.ls⟩
    have hq4 : (mu m3 q (.lst [.d (.bool true), .d (.bool false)])) q = some (.lst [.d (.bool true), .d (.bool false)]) := mu_same
    refine ⟨_, rfl, .inl ⟨rfl, _, hq4⟩, ?_⟩
    obtain ⟨dx4, ho4⟩ := A4.ob
    refine ⟨_, rfl, a, dx4, _, rfl, ho4, fl_no _ _ (by decide +kernel) (by decide +kernel), ?_⟩
    refine ⟨_, rfl, 2, _, .d (.int 1), rfl, rfl, at_nat (n := 2) rfl, ?_⟩
    refine ⟨_, rfl, 0, _, .d (.int 5), rfl, rfl, at_nat (n := 0) rfl, ?_⟩
    refine ⟨_, rfl, 1, _, .d (.int 0), rfl, rfl, at_nat (n := 1) rfl, ?_⟩
    refine ⟨Nat.le_of_ble_eq_true rfl, mkT_l (ds := [.int 5, .int 0]) rfl ?_⟩
    refine ⟨rfl, rfl, ?_⟩
    refine c_pre A4 (i := 1) (k := 3) (vs := [5, 0]) (rs' := ([⟨5, 5, false⟩, ⟨7, 0, false⟩, ⟨3, 1, true⟩] : List Rq)) (v := 5) (by first | rfl | kernel_rfl) (fun m5 hm5 A5 => ?_)
    have hq5 := hm5 _ _ (by rw [mu_ne hqp]; exact hq4)
    refine ⟨q, _, _, rfl, rfl, hq5, Nat.le_of_ble_eq_true rfl, ?_⟩
    have A6 : At C2 (mu m5 q (.lst [.d (.bool true), .d (.bool false), .d (.int 5)])) a 1 p ([⟨5, 5, false⟩, ⟨7, 0, false⟩, ⟨3, 1, true⟩] : List Rq) := ⟨A5.ob.imp fun _ e => (mu_ne hqa.symm).trans e, (mu_ne hqp.symm).trans A5.ls⟩
    have hq6 : (mu m5 q (.lst [.d (.bool true), .d (.bool false), .d (.int 5)])) q = some (.lst [.d (.bool true), .d (.bool false), .d (.int 5)]) := mu_same
    refine ⟨_, rfl, ?_⟩
    obtain ⟨dx6, ho6⟩ := A6.ob
    refine ⟨_, rfl, a, dx6, _, rfl, ho6, fl_no _ _ (by decide +kernel) (by decide +kernel), ?_⟩
    refine c_hold A6 (L := [.tuple [.int 3, .int 1]]) rfl (fun m7 hm7 A7 => ?_)
    have hq7 := hm7 _ _ hq6
    obtain ⟨dx7, ho7⟩ := A7.ob
    refine ⟨_, rfl, a, dx7, _, rfl, ho7, fl_no _ _ (by decide +kernel) (by decide +kernel), ?_⟩
    refine c_wait A7 (L := [.tuple [.int 5, .int 5], .tuple [.int 7, .int 0]]) (wait_c (sv_c (I := [0, 1]) (L := [(5, 0), (7, 1)]) (by decide) (by decide) rfl) rfl) (fun m8 hm8 A8 => ?_)
    have hq8 := hm8 _ _ hq7
    obtain ⟨dx8, ho8⟩ := A8.ob
    refine ⟨_, rfl, a, dx8, _, rfl, ho8, fl_no _ _ (by decide +kernel) (by decide +kernel), ?_⟩
    refine ⟨_, rfl, 2, _, .d (.int 1), rfl, rfl, at_nat (n := 2) rfl, ?_⟩
    refine ⟨rfl, rfl, ?_⟩
    refine c_rel A8 (i := 1) (rs' := ([⟨5, 5, true⟩, ⟨7, 0, false⟩] : List Rq)) (d := .int 5) (rel_c (j := 2) rfl (sv_c (I := [0, 1]) (L := [(5, 0), (7, 1)]) (by decide) (by decide) rfl) rfl) (fun m9 hm9 A9 => ?_)
    have hq9 := hm9 _ _ (by rw [mu_ne hqp]; exact hq8)
    obtain ⟨dx9, ho9⟩ := A9.ob
    refine ⟨_, rfl, a, dx9, _, rfl, ho9, c_free A9 (v := 0) rfl fun m10 hm10 A10 => ?_⟩
    have hq10 := hm10 _ _ hq9
    obtain ⟨dx10, ho10⟩ := A10.ob
    refine ⟨_, rfl, a, dx10, _, rfl, ho10, c_len A10 (v := 1) (L := [.tuple [.int 7, .int 0]]) (wait_c (sv_c (I := [1]) (L := [(7, 1)]) (by decide) (by decide) rfl) rfl) rfl fun m11 hm11 A11 => ?_⟩
    have hq11 := hm11 _ _ hq10
    obtain ⟨dx11, ho11⟩ := A11.ob
    refine ⟨_, rfl, a, dx11, _, rfl, ho11, c_rep A11 (t := "PreemptLine(1 units, 1 waiting)") (L := [.tuple [.int 7, .int 0]]) (wait_c (sv_c (I := [1]) (L := [(7, 1)]) (by decide) (by decide) rfl) rfl) (by decide +kernel) (by decide +kernel) fun m12 hm12 A12 => ⟨_, rfl, ?_⟩⟩
    have hq12 := hm12 _ _ hq11
    refine ⟨Nat.le_of_ble_eq_true rfl, [.tuple [.tuple [.int 3, .int 1]], .tuple [.tuple [.int 5, .int 5], .tuple [.int 7, .int 0]], .int 5, .int 0, .int 1, .str "PreemptLine(1 units, 1 waiting)"], rfl, ?_⟩
    refine ⟨_, _, [.bool true, .bool false, .int 5, .tuple [.tuple [.int 3, .int 1]], .tuple [.tuple [.int 5, .int 5], .tuple [.int 7, .int 0]], .int 5, .int 0, .int 1, .str "PreemptLine(1 units, 1 waiting)"], hq12, rfl, Nat.le_of_ble_eq_true rfl, rfl, ?_⟩
    refine ⟨_, rfl, 0, _, .d (.int 5), rfl, rfl, at_nat (n := 0) rfl, ?_⟩
    refine ⟨_, rfl, 2, _, .d (.int 1), rfl, rfl, at_nat (n := 2) rfl, ?_⟩
    refine ⟨Nat.le_of_ble_eq_true rfl, mkT_l (ds := [.int 3, .int 1]) rfl ?_⟩
    refine ⟨Nat.le_of_ble_eq_true rfl, mkT_l (ds := [.tuple [.int 3, .int 1]]) rfl ?_⟩
    refine ⟨_, rfl, 0, _, .d (.int 5), rfl, rfl, at_nat (n := 0) rfl, ?_⟩
    refine ⟨Nat.le_of_ble_eq_true rfl, mkT_l (ds := [.int 5, .int 5]) rfl ?_⟩
    refine ⟨_, rfl, 1, _, .d (.int 0), rfl, rfl, at_nat (n := 1) rfl, ?_⟩
    refine ⟨Nat.le_of_ble_eq_true rfl, mkT_l (ds := [.int 7, .int 0]) rfl ?_⟩
    refine ⟨Nat.le_of_ble_eq_true rfl, mkT_l (ds := [.tuple [.int 5, .int 5], .tuple [.int 7, .int 0]]) rfl ?_⟩
    refine ⟨_, rfl, 0, _, .d (.int 5), rfl, rfl, at_nat (n := 0) rfl, ?_⟩
    refine ⟨Nat.le_of_ble_eq_true rfl, [.bool true, .bool false, .int 5, .tuple [.tuple [.int 3, .int 1]], .tuple [.tuple [.int 5, .int 5], .tuple [.int 7, .int 0]], .int 5, .int 0, .int 1], rfl, ?_⟩
    refine ⟨_, rfl, ?_⟩
    refine ⟨_, rfl, ?_⟩
    refine ⟨Nat.le_of_ble_eq_true rfl, [.str "PreemptLine(1 units, 1 waiting)"], rfl, ?_⟩
    refine ⟨_, _, [.bool true, .bool false, .int 5, .tuple [.tuple [.int 3, .int 1]], .tuple [.tuple [.int 5, .int 5], .tuple [.int 7, .int 0]], .int 5, .int 0, .int 1, .str "PreemptLine(1 units, 1 waiting)"], rfl, rfl, Nat.le_of_ble_eq_true rfl, rfl, ?_⟩
    exact ⟨.list [.bool true, .bool false, .int 5, .tuple [.tuple [.int 3, .int 1]], .tuple [.tuple [.int 5, .int 5], .tuple [.int 7, .int 0]], .int 5, .int 0, .int 1, .str "PreemptLine(1 units, 1 waiting)"], rfl, ⟨by decide +kernel, by decide +kernel, by decide +kernel, by decide +kernel⟩, h _⟩
abbrev s_law_second_case : Stmt := top 23
abbrev N_law_second_case : List Str := ["_law_shift", "_law_p", "_law_line", "_law_found", "_law_expected", "_law_place"]
theorem sc_law_second_case : FnScope N_law_second_case ["_law_shift"] (defScope s_law_second_case) := ⟨rfl, rfl, rfl, by decide +kernel, rfl, by decide +kernel, by decide +kernel⟩
theorem ok_law_second_case {f : Addr} {fd : FuncData} (F : Fun K "_law_second_case" "_law_second_case" s_law_second_case f fd) (T : Txt K mg) {C1 XH fN f_request f_release f_holders f_waiting p_free f_free p_length f_length f_released f_same : Addr} {fdN fd_request fd_release fd_holders fd_waiting fd_free fd_length fd_released fd_same : FuncData} (N_RankLine : NF P w K mg base "RankLine" C1 3 fN fdN ["self", "units"] (d_init C1)) (M1_request : MF P w K mg base C1 "request" 8 f_request fd_request ["self", "process", "rank"] (d_request C1)) (M1_release : MF P w K mg base C1 "release" 6 f_release fd_release ["self", "process"] (d_release C1 XH (svR 1))) (M1_holders : MF P w K mg base C1 "holders" 3 f_holders fd_holders ["self"] (d_holders C1)) (M1_waiting : MF P w K mg base C1 "waiting" 5 f_waiting fd_waiting ["self"] (d_waiting C1 (svR 1))) (P1_free : PF P w K mg base C1 "free" 4 p_free f_free fd_free ["self"] (d_free C1)) (P1_length : PF P w K mg base C1 "length" 6 p_length f_length fd_length ["self"] (d_length C1 (svR 1))) (G_law_released : GF P w K mg base "_law_released" 8 f_released fd_released ["_law_line", "_law_who"] (d_law_released C1 (svR 1))) (G_law_same : GF P w K mg base "_law_same" 1 f_same fd_same ["_law_actual", "_law_expected"] d_law_same) : FnD P w K mg base 10 f fd ["_law_shift"] (d_case) := by
  refine Dl.Fun.dok F sc_law_second_case _ (fun cdv A outer s H E B hp =>
      (dss_cons (ds_setLc (i := 1) (fin := finD) finD_ok rfl sc_law_second_case.nd rfl rfl (sw_true rfl rfl rfl (by decide +kernel)) (di_range1 rfl T.b_range (da_cons (de_int) da_nil)) (blkOk_by (own := [("_law_place", 5)]) (N := N_law_second_case) (sc := defScope s_law_second_case) (by decide +kernel)) (fun _ _ _ _ _ => pg_name (i := 5) sc_law_second_case.nd rfl (by first | exact Or.inl rfl | exact Or.inr rfl)) (dgw_name (i := 5) (by decide)) (fun _ _ _ _ _ => dts_nil) (fun _ _ _ _ _ => de_op opd_mod (de_op opd_add (de_var (pv 5)) (de_var (pv 0))) (de_int)))
      (dss_cons (ds_set (i := 2) sc_law_second_case.nd rfl (by first | exact Or.inl rfl | exact Or.inr rfl) (de_nf N_RankLine B.hr B.gd B.tk rfl (da_cons (de_int) da_nil)))
      (dss_cons (ds_set (i := 3) sc_law_second_case.nd rfl (by first | exact Or.inl rfl | exact Or.inr rfl) (de_lst (da_cons (de_mf (de_var (pv 2)) M1_request B.hr B.gd B.tk (da_cons (de_ix (de_var (pv 1)) (de_int) (by intro _ _; rfl)) (da_cons (de_int) da_nil))) (da_cons (de_mf (de_var (pv 2)) M1_request B.hr B.gd B.tk (da_cons (de_ix (de_var (pv 1)) (de_int) (by intro _ _; rfl)) (da_cons (de_int) da_nil))) (da_cons (de_mf (de_var (pv 2)) M1_request B.hr B.gd B.tk (da_cons (de_ix (de_var (pv 1)) (de_int) (by intro _ _; rfl)) (da_cons (de_int) da_nil))) (da_cons (de_mf (de_var (pv 2)) M1_request B.hr B.gd B.tk (da_cons (de_ix (de_var (pv 1)) (de_int) (by intro _ _; rfl)) (da_cons (de_int) da_nil))) da_nil))))))
      (dss_cons (ds_set (i := 3) sc_law_second_case.nd rfl (by first | exact Or.inl rfl | exact Or.inr rfl) (de_op opd_add (de_var (pv 3)) (de_lst (da_cons (de_mf (de_var (pv 2)) M1_request B.hr B.gd B.tk (da_cons (de_ix (de_var (pv 1)) (de_int) (by intro _ _; rfl)) (da_cons (de_int) da_nil))) (da_cons (de_mf0 (de_var (pv 2)) M1_waiting B.hr B.gd B.tk) (da_cons (de_mf (de_var (pv 2)) M1_release B.hr B.gd B.tk (da_cons (de_ix (de_var (pv 1)) (de_int) (by intro _ _; rfl)) da_nil)) (da_cons (de_mf0 (de_var (pv 2)) M1_holders B.hr B.gd B.tk) (da_cons (de_mf (de_var (pv 2)) M1_release B.hr B.gd B.tk (da_cons (de_ix (de_var (pv 1)) (de_int) (by intro _ _; rfl)) da_nil)) da_nil))))))))
      (dss_cons (ds_set (i := 3) sc_law_second_case.nd rfl (by first | exact Or.inl rfl | exact Or.inr rfl) (de_op opd_add (de_var (pv 3)) (de_lst (da_cons (de_mf0 (de_var (pv 2)) M1_holders B.hr B.gd B.tk) (da_cons (de_mf0 (de_var (pv 2)) M1_waiting B.hr B.gd B.tk) (da_cons (de_gf G_law_released B.hr B.gd B.tk rfl (da_cons (de_var (pv 2)) (da_cons (de_ix (de_var (pv 1)) (de_int) (by intro _ _; rfl)) da_nil))) (da_cons (de_mf (de_var (pv 2)) M1_release B.hr B.gd B.tk (da_cons (de_ix (de_var (pv 1)) (de_int) (by intro _ _; rfl)) da_nil)) da_nil)))))))
      (dss_cons (ds_set (i := 3) sc_law_second_case.nd rfl (by first | exact Or.inl rfl | exact Or.inr rfl) (de_op opd_add (de_var (pv 3)) (de_lst (da_cons (de_mf0 (de_var (pv 2)) M1_holders B.hr B.gd B.tk) (da_cons (de_pf (de_var (pv 2)) P1_length B.hr B.gd) (da_cons (de_mf (de_var (pv 2)) M1_release B.hr B.gd B.tk (da_cons (de_ix (de_var (pv 1)) (de_int) (by intro _ _; rfl)) da_nil)) (da_cons (de_pf (de_var (pv 2)) P1_free B.hr B.gd) (da_cons (de_mf (de_var (pv 2)) M1_release B.hr B.gd B.tk (da_cons (de_ix (de_var (pv 1)) (de_int) (by intro _ _; rfl)) da_nil)) (da_cons (de_pf (de_var (pv 2)) P1_free B.hr B.gd) da_nil)))))))))
      (dss_cons (ds_set (i := 4) sc_law_second_case.nd rfl (by first | exact Or.inl rfl | exact Or.inr rfl) (de_lst (da_cons (de_bl) (da_cons (de_bl) (da_cons (de_bl) (da_cons (de_bl) (da_cons (de_bl) (da_cons (de_tup (da_cons (de_tup (da_cons (de_int) (da_cons (de_ix (de_var (pv 1)) (de_int) (by intro _ _; rfl)) da_nil))) (da_cons (de_tup (da_cons (de_int) (da_cons (de_ix (de_var (pv 1)) (de_int) (by intro _ _; rfl)) da_nil))) (da_cons (de_tup (da_cons (de_int) (da_cons (de_ix (de_var (pv 1)) (de_int) (by intro _ _; rfl)) da_nil))) da_nil)))) (da_cons (de_ix (de_var (pv 1)) (de_int) (by intro _ _; rfl)) (da_cons (de_tup (da_cons (de_tup (da_cons (de_int) (da_cons (de_ix (de_var (pv 1)) (de_int) (by intro _ _; rfl)) da_nil))) (da_cons (de_tup (da_cons (de_int) (da_cons (de_ix (de_var (pv 1)) (de_int) (by intro _ _; rfl)) da_nil))) da_nil))) da_nil))))))))))
      (dss_cons (ds_set (i := 4) sc_law_second_case.nd rfl (by first | exact Or.inl rfl | exact Or.inr rfl) (de_op opd_add (de_var (pv 4)) (de_lst (da_cons (de_ix (de_var (pv 1)) (de_int) (by intro _ _; rfl)) (da_cons (de_tup (da_cons (de_tup (da_cons (de_int) (da_cons (de_ix (de_var (pv 1)) (de_int) (by intro _ _; rfl)) da_nil))) (da_cons (de_tup (da_cons (de_int) (da_cons (de_ix (de_var (pv 1)) (de_int) (by intro _ _; rfl)) da_nil))) da_nil))) (da_cons (de_tup (da_cons (de_tup (da_cons (de_int) (da_cons (de_ix (de_var (pv 1)) (de_int) (by intro _ _; rfl)) da_nil))) da_nil)) (da_cons (de_non) (da_cons (de_ix (de_var (pv 1)) (de_int) (by intro _ _; rfl)) (da_cons (de_tup (da_cons (de_tup (da_cons (de_int) (da_cons (de_ix (de_var (pv 1)) (de_int) (by intro _ _; rfl)) da_nil))) (da_cons (de_tup (da_cons (de_int) (da_cons (de_ix (de_var (pv 1)) (de_int) (by intro _ _; rfl)) da_nil))) da_nil))) (da_cons (de_int) da_nil))))))))))
      (dss_one (ds_ret (de_gf G_law_same B.hr B.gd B.tk rfl (da_cons (de_var (pv 3)) (da_cons (de_op opd_add (de_var (pv 4)) (de_lst (da_cons (de_non) (da_cons (de_int) (da_cons (de_non) (da_cons (de_int) da_nil)))))) da_nil)))))))))))))) (fun ys m F P h => ?_)
  obtain ⟨s, rfl, s0, s5, h⟩ := h
  refine ⟨rfl, ?_⟩
  have hs : s = 0 ∨ s = 1 ∨ s = 2 ∨ s = 3 ∨ s = 4 ∨ s = 5 := by omega
  clear s0 s5
  rcases hs with rfl | rfl | rfl | rfl | rfl | rfl
  · refine ⟨6, rfl, by decide, by decide, ?_⟩
    refine lc_rngE (fun i => .int (((0 + (i : Int)) + 0) % 6)) [.int 0, .int 1, .int 2, .int 3, .int 4, .int 5] (Nat.le_of_ble_eq_true rfl) rfl (fun i M hi hM C' N' hC => iteT ⟨_, rfl, _, rfl, (by decide : (0 : Int) < 6), hC M Mle.refl⟩) fun m0 hm0 => ?_
    refine fun a dx na => c_init (by decide) mu_same fun p m1 A1 => ⟨rfl, ?_⟩
    obtain ⟨dx1, ho1⟩ := A1.ob
    refine ⟨_, rfl, a, dx1, _, rfl, ho1, fl_no _ _ (by decide +kernel) (by decide +kernel), ?_⟩
    refine ⟨_, rfl, 0, _, .d (.int 0), rfl, rfl, at_nat (n := 0) rfl, ?_⟩
    refine c_req A1 (i := 0) (k := 4) (rs' := ([⟨4, 0, true⟩] : List Rq)) (b := true) rfl rfl (fun m2 hm2 A2 => ?_)
    obtain ⟨dx2, ho2⟩ := A2.ob
    refine ⟨_, rfl, a, dx2, _, rfl, ho2, fl_no _ _ (by decide +kernel) (by decide +kernel), ?_⟩
    refine ⟨_, rfl, 1, _, .d (.int 1), rfl, rfl, at_nat (n := 1) rfl, ?_⟩
    refine c_req A2 (i := 1) (k := 4) (rs' := ([⟨4, 0, true⟩, ⟨4, 1, true⟩] : List Rq)) (b := true) rfl rfl (fun m3 hm3 A3 => ?_)
    obtain ⟨dx3, ho3⟩ := A3.ob
    refine ⟨_, rfl, a, dx3, _, rfl, ho3, fl_no _ _ (by decide +kernel) (by decide +kernel), ?_⟩
    refine ⟨_, rfl, 2, _, .d (.int 2), rfl, rfl, at_nat (n := 2) rfl, ?_⟩
    refine c_req A3 (i := 2) (k := 9) (rs' := ([⟨4, 0, true⟩, ⟨4, 1, true⟩, ⟨9, 2, false⟩] : List Rq)) (b := false) rfl rfl (fun m4 hm4 A4 => ?_)
    obtain ⟨dx4, ho4⟩ := A4.ob
    refine ⟨_, rfl, a, dx4, _, rfl, ho4, fl_no _ _ (by decide +kernel) (by decide +kernel), ?_⟩
    refine ⟨_, rfl, 3, _, .d (.int 3), rfl, rfl, at_nat (n := 3) rfl, ?_⟩
    refine c_req A4 (i := 3) (k := 2) (rs' := ([⟨4, 0, true⟩, ⟨4, 1, true⟩, ⟨9, 2, false⟩, ⟨2, 3, false⟩] : List Rq)) (b := false) rfl rfl (fun m5 hm5 A5 => ?_)
    refine ⟨Nat.le_of_ble_eq_true rfl, [.bool true, .bool true, .bool false, .bool false], rfl, ?_⟩
    refine ⟨_, rfl, ?_⟩
    obtain ⟨dx5, ho5⟩ := A5.ob
    refine ⟨_, rfl, a, dx5, _, rfl, ho5, fl_no _ _ (by decide +kernel) (by decide +kernel), ?_⟩
    refine ⟨_, rfl, 0, _, .d (.int 0), rfl, rfl, at_nat (n := 0) rfl, ?_⟩
    refine c_req A5 (i := 0) (k := 9) (rs' := ([⟨4, 0, true⟩, ⟨4, 1, true⟩, ⟨9, 2, false⟩, ⟨2, 3, false⟩, ⟨9, 0, false⟩] : List Rq)) (b := false) rfl rfl (fun m6 hm6 A6 => ?_)
    obtain ⟨dx6, ho6⟩ := A6.ob
    refine ⟨_, rfl, a, dx6, _, rfl, ho6, fl_no _ _ (by decide +kernel) (by decide +kernel), ?_⟩
    refine c_wait A6 (L := [.tuple [.int 2, .int 3], .tuple [.int 9, .int 2], .tuple [.int 9, .int 0]]) (wait_c (sv_c (I := [3, 2, 4]) (L := [(2, 3), (9, 2), (9, 4)]) (by decide) (by decide) rfl) rfl) (fun m7 hm7 A7 => ?_)
    obtain ⟨dx7, ho7⟩ := A7.ob
    refine ⟨_, rfl, a, dx7, _, rfl, ho7, fl_no _ _ (by decide +kernel) (by decide +kernel), ?_⟩
    refine ⟨_, rfl, 1, _, .d (.int 1), rfl, rfl, at_nat (n := 1) rfl, ?_⟩
    refine c_rel A7 (i := 1) (rs' := ([⟨4, 0, true⟩, ⟨9, 2, false⟩, ⟨2, 3, true⟩, ⟨9, 0, false⟩] : List Rq)) (d := .int 3) (rel_c (j := 1) rfl (sv_c (I := [2, 1, 3]) (L := [(2, 2), (9, 1), (9, 3)]) (by decide) (by decide) rfl) rfl) (fun m8 hm8 A8 => ?_)
    obtain ⟨dx8, ho8⟩ := A8.ob
    refine ⟨_, rfl, a, dx8, _, rfl, ho8, fl_no _ _ (by decide +kernel) (by decide +kernel), ?_⟩
    refine c_hold A8 (L := [.tuple [.int 4, .int 0], .tuple [.int 2, .int 3]]) rfl (fun m9 hm9 A9 => ?_)
    obtain ⟨dx9, ho9⟩ := A9.ob
    refine ⟨_, rfl, a, dx9, _, rfl, ho9, fl_no _ _ (by decide +kernel) (by decide +kernel), ?_⟩
    refine ⟨_, rfl, 0, _, .d (.int 0), rfl, rfl, at_nat (n := 0) rfl, ?_⟩
    refine c_rel A9 (i := 0) (rs' := ([⟨9, 2, true⟩, ⟨2, 3, true⟩, ⟨9, 0, false⟩] : List Rq)) (d := .int 2) (rel_c (j := 0) rfl (sv_c (I := [0, 2]) (L := [(9, 0), (9, 2)]) (by decide) (by decide) rfl) rfl) (fun m10 hm10 A10 => ?_)
    refine ⟨Nat.le_of_ble_eq_true rfl, [.bool false, .tuple [.tuple [.int 2, .int 3], .tuple [.int 9, .int 2], .tuple [.int 9, .int 0]], .int 3, .tuple [.tuple [.int 4, .int 0], .tuple [.int 2, .int 3]], .int 2], rfl, ?_⟩
    refine ⟨_, _, [.bool true, .bool true, .bool false, .bool false, .bool false, .tuple [.tuple [.int 2, .int 3], .tuple [.int 9, .int 2], .tuple [.int 9, .int 0]], .int 3, .tuple [.tuple [.int 4, .int 0], .tuple [.int 2, .int 3]], .int 2], rfl, rfl, Nat.le_of_ble_eq_true rfl, rfl, ?_⟩
    refine ⟨_, rfl, ?_⟩
    obtain ⟨dx10, ho10⟩ := A10.ob
    refine ⟨_, rfl, a, dx10, _, rfl, ho10, fl_no _ _ (by decide +kernel) (by decide +kernel), ?_⟩
    refine c_hold A10 (L := [.tuple [.int 9, .int 2], .tuple [.int 2, .int 3]]) rfl (fun m11 hm11 A11 => ?_)
    obtain ⟨dx11, ho11⟩ := A11.ob
    refine ⟨_, rfl, a, dx11, _, rfl, ho11, fl_no _ _ (by decide +kernel) (by decide +kernel), ?_⟩
    refine c_wait A11 (L := [.tuple [.int 9, .int 0]]) (wait_c (sv_c (I := [2]) (L := [(9, 2)]) (by decide) (by decide) rfl) rfl) (fun m12 hm12 A12 => ?_)
    refine ⟨_, rfl, ?_⟩
    refine ⟨_, rfl, 0, _, .d (.int 0), rfl, rfl, at_nat (n := 0) rfl, ?_⟩
    refine c_lrel0 A12 (by rfl) fun m13 hm13 A13 => ?_
    obtain ⟨dx13, ho13⟩ := A13.ob
    refine ⟨_, rfl, a, dx13, _, rfl, ho13, fl_no _ _ (by decide +kernel) (by decide +kernel), ?_⟩
    refine ⟨_, rfl, 3, _, .d (.int 3), rfl, rfl, at_nat (n := 3) rfl, ?_⟩
    refine c_rel A13 (i := 3) (rs' := ([⟨9, 2, true⟩, ⟨9, 0, true⟩] : List Rq)) (d := .int 0) (rel_c (j := 1) rfl (sv_c (I := [1]) (L := [(9, 1)]) (by decide) (by decide) rfl) rfl) (fun m14 hm14 A14 => ?_)
    refine ⟨Nat.le_of_ble_eq_true rfl, [.tuple [.tuple [.int 9, .int 2], .tuple [.int 2, .int 3]], .tuple [.tuple [.int 9, .int 0]], .none, .int 0], rfl, ?_⟩
    refine ⟨_, _, [.bool true, .bool true, .bool false, .bool false, .bool false, .tuple [.tuple [.int 2, .int 3], .tuple [.int 9, .int 2], .tuple [.int 9, .int 0]], .int 3, .tuple [.tuple [.int 4, .int 0], .tuple [.int 2, .int 3]], .int 2, .tuple [.tuple [.int 9, .int 2], .tuple [.int 2, .int 3]], .tuple [.tuple [.int 9, .int 0]], .none, .int 0], rfl, rfl, Nat.le_of_ble_eq_true rfl, rfl, ?_⟩
    refine ⟨_, rfl, ?_⟩
    obtain ⟨dx14, ho14⟩ := A14.ob
    refine ⟨_, rfl, a, dx14, _, rfl, ho14, fl_no _ _ (by decide +kernel) (by decide +kernel), ?_⟩
    refine c_hold A14 (L := [.tuple [.int 9, .int 2], .tuple [.int 9, .int 0]]) rfl (fun m15 hm15 A15 => ?_)
    obtain ⟨dx15, ho15⟩ := A15.ob
    refine ⟨_, rfl, a, dx15, _, rfl, ho15, c_len A15 (v := 0) (L := []) (wait_c (sv_c (I := []) (L := []) (by decide) (by decide) rfl) rfl) rfl fun m16 hm16 A16 => ?_⟩
    obtain ⟨dx16, ho16⟩ := A16.ob
    refine ⟨_, rfl, a, dx16, _, rfl, ho16, fl_no _ _ (by decide +kernel) (by decide +kernel), ?_⟩
    refine ⟨_, rfl, 0, _, .d (.int 0), rfl, rfl, at_nat (n := 0) rfl, ?_⟩
    refine c_rel A16 (i := 0) (rs' := ([⟨9, 2, true⟩] : List Rq)) (d := .none) (rel_c (j := 1) rfl (sv_c (I := []) (L := []) (by decide) (by decide) rfl) rfl) (fun m17 hm17 A17 => ?_)
    obtain ⟨dx17, ho17⟩ := A17.ob
    refine ⟨_, rfl, a, dx17, _, rfl, ho17, c_free A17 (v := 1) rfl fun m18 hm18 A18 => ?_⟩
    obtain ⟨dx18, ho18⟩ := A18.ob
    refine ⟨_, rfl, a, dx18, _, rfl, ho18, fl_no _ _ (by decide +kernel) (by decide +kernel), ?_⟩
    refine ⟨_, rfl, 2, _, .d (.int 2), rfl, rfl, at_nat (n := 2) rfl, ?_⟩
    refine c_rel A18 (i := 2) (rs' := ([] : List Rq)) (d := .none) (rel_c (j := 0) rfl (sv_c (I := []) (L := []) (by decide) (by decide) rfl) rfl) (fun m19 hm19 A19 => ?_)
    obtain ⟨dx19, ho19⟩ := A19.ob
    refine ⟨_, rfl, a, dx19, _, rfl, ho19, c_free A19 (v := 2) rfl fun m20 hm20 A20 => ?_⟩
    refine ⟨Nat.le_of_ble_eq_true rfl, [.tuple [.tuple [.int 9, .int 2], .tuple [.int 9, .int 0]], .int 0, .none, .int 1, .none, .int 2], rfl, ?_⟩
    refine ⟨_, _, [.bool true, .bool true, .bool false, .bool false, .bool false, .tuple [.tuple [.int 2, .int 3], .tuple [.int 9, .int 2], .tuple [.int 9, .int 0]], .int 3, .tuple [.tuple [.int 4, .int 0], .tuple [.int 2, .int 3]], .int 2, .tuple [.tuple [.int 9, .int 2], .tuple [.int 2, .int 3]], .tuple [.tuple [.int 9, .int 0]], .none, .int 0, .tuple [.tuple [.int 9, .int 2], .tuple [.int 9, .int 0]], .int 0, .none, .int 1, .none, .int 2], rfl, rfl, Nat.le_of_ble_eq_true rfl, rfl, ?_⟩
    refine ⟨_, rfl, 3, _, .d (.int 3), rfl, rfl, at_nat (n := 3) rfl, ?_⟩
    refine ⟨Nat.le_of_ble_eq_true rfl, mkT_l (ds := [.int 2, .int 3]) rfl ?_⟩
    refine ⟨_, rfl, 2, _, .d (.int 2), rfl, rfl, at_nat (n := 2) rfl, ?_⟩
    refine ⟨Nat.le_of_ble_eq_true rfl, mkT_l (ds := [.int 9, .int 2]) rfl ?_⟩
    refine ⟨_, rfl, 0, _, .d (.int 0), rfl, rfl, at_nat (n := 0) rfl, ?_⟩
    refine ⟨Nat.le_of_ble_eq_true rfl, mkT_l (ds := [.int 9, .int 0]) rfl ?_⟩
    refine ⟨Nat.le_of_ble_eq_true rfl, mkT_l (ds := [.tuple [.int 2, .int 3], .tuple [.int 9, .int 2], .tuple [.int 9, .int 0]]) rfl ?_⟩
    refine ⟨_, rfl, 3, _, .d (.int 3), rfl, rfl, at_nat (n := 3) rfl, ?_⟩
    refine ⟨_, rfl, 0, _, .d (.int 0), rfl, rfl, at_nat (n := 0) rfl, ?_⟩
    refine ⟨Nat.le_of_ble_eq_true rfl, mkT_l (ds := [.int 4, .int 0]) rfl ?_⟩
    refine ⟨_, rfl, 3, _, .d (.int 3), rfl, rfl, at_nat (n := 3) rfl, ?_⟩
    refine ⟨Nat.le_of_ble_eq_true rfl, mkT_l (ds := [.int 2, .int 3]) rfl ?_⟩
    refine ⟨Nat.le_of_ble_eq_true rfl, mkT_l (ds := [.tuple [.int 4, .int 0], .tuple [.int 2, .int 3]]) rfl ?_⟩
    refine ⟨Nat.le_of_ble_eq_true rfl, [.bool true, .bool true, .bool false, .bool false, .bool false, .tuple [.tuple [.int 2, .int 3], .tuple [.int 9, .int 2], .tuple [.int 9, .int 0]], .int 3, .tuple [.tuple [.int 4, .int 0], .tuple [.int 2, .int 3]]], rfl, ?_⟩
    refine ⟨_, rfl, ?_⟩
    refine ⟨_, rfl, 2, _, .d (.int 2), rfl, rfl, at_nat (n := 2) rfl, ?_⟩
    refine ⟨_, rfl, 2, _, .d (.int 2), rfl, rfl, at_nat (n := 2) rfl, ?_⟩
    refine ⟨Nat.le_of_ble_eq_true rfl, mkT_l (ds := [.int 9, .int 2]) rfl ?_⟩
    refine ⟨_, rfl, 3, _, .d (.int 3), rfl, rfl, at_nat (n := 3) rfl, ?_⟩
    refine ⟨Nat.le_of_ble_eq_true rfl, mkT_l (ds := [.int 2, .int 3]) rfl ?_⟩
    refine ⟨Nat.le_of_ble_eq_true rfl, mkT_l (ds := [.tuple [.int 9, .int 2], .tuple [.int 2, .int 3]]) rfl ?_⟩
    refine ⟨_, rfl, 0, _, .d (.int 0), rfl, rfl, at_nat (n := 0) rfl, ?_⟩
    refine ⟨Nat.le_of_ble_eq_true rfl, mkT_l (ds := [.int 9, .int 0]) rfl ?_⟩
    refine ⟨Nat.le_of_ble_eq_true rfl, mkT_l (ds := [.tuple [.int 9, .int 0]]) rfl ?_⟩
    refine ⟨_, rfl, 0, _, .d (.int 0), rfl, rfl, at_nat (n := 0) rfl, ?_⟩
    refine ⟨_, rfl, 2, _, .d (.int 2), rfl, rfl, at_nat (n := 2) rfl, ?_⟩
    refine ⟨Nat.le_of_ble_eq_true rfl, mkT_l (ds := [.int 9, .int 2]) rfl ?_⟩
    refine ⟨_, rfl, 0, _, .d (.int 0), rfl, rfl, at_nat (n := 0) rfl, ?_⟩
    refine ⟨Nat.le_of_ble_eq_true rfl, mkT_l (ds := [.int 9, .int 0]) rfl ?_⟩
    refine ⟨Nat.le_of_ble_eq_true rfl, mkT_l (ds := [.tuple [.int 9, .int 2], .tuple [.int 9, .int 0]]) rfl ?_⟩
    refine ⟨Nat.le_of_ble_eq_true rfl, [.int 2, .tuple [.tuple [.int 9, .int 2], .tuple [.int 2, .int 3]], .tuple [.tuple [.int 9, .int 0]], .none, .int 0, .tuple [.tuple [.int 9, .int 2], .tuple [.int 9, .int 0]], .int 0], rfl, ?_⟩
    refine ⟨_, _, [.bool true, .bool true, .bool false, .bool false, .bool false, .tuple [.tuple [.int 2, .int 3], .tuple [.int 9, .int 2], .tuple [.int 9, .int 0]], .int 3, .tuple [.tuple [.int 4, .int 0], .tuple [.int 2, .int 3]], .int 2, .tuple [.tuple [.int 9, .int 2], .tuple [.int 2, .int 3]], .tuple [.tuple [.int 9, .int 0]], .none, .int 0, .tuple [.tuple [.int 9, .int 2], .tuple [.int 9, .int 0]], .int 0], rfl, rfl, Nat.le_of_ble_eq_true rfl, rfl, ?_⟩
    refine ⟨_, rfl, ?_⟩
    refine ⟨_, rfl, ?_⟩
    refine ⟨Nat.le_of_ble_eq_true rfl, [.none, .int 1, .none, .int 2], rfl, ?_⟩
    refine ⟨_, _, [.bool true, .bool true, .bool false, .bool false, .bool false, .tuple [.tuple [.int 2, .int 3], .tuple [.int 9, .int 2], .tuple [.int 9, .int 0]], .int 3, .tuple [.tuple [.int 4, .int 0], .tuple [.int 2, .int 3]], .int 2, .tuple [.tuple [.int 9, .int 2], .tuple [.int 2, .int 3]], .tuple [.tuple [.int 9, .int 0]], .none, .int 0, .tuple [.tuple [.int 9, .int 2], .tuple [.int 9, .int 0]], .int 0, .none, .int 1, .none, .int 2], rfl, rfl, Nat.le_of_ble_eq_true rfl, rfl, ?_⟩
    exact ⟨.list [.bool true, .bool true, .bool false, .bool false, .bool false, .tuple [.tuple [.int 2, .int 3], .tuple [.int 9, .int 2], .tuple [.int 9, .int 0]], .int 3, .tuple [.tuple [.int 4, .int 0], .tuple [.int 2, .int 3]], .int 2, .tuple [.tuple [.int 9, .int 2], .tuple [.int 2, .int 3]], .tuple [.tuple [.int 9, .int 0]], .none, .int 0, .tuple [.tuple [.int 9, .int 2], .tuple [.int 9, .int 0]], .int 0, .none, .int 1, .none, .int 2], rfl, ⟨by decide +kernel, by decide +kernel, by decide +kernel, by decide +kernel⟩, h _⟩
  · refine ⟨6, rfl, by decide, by decide, ?_⟩
    refine lc_rngE (fun i => .int (((0 + (i : Int)) + 1) % 6)) [.int 1, .int 2, .int 3, .int 4, .int 5, .int 0] (Nat.le_of_ble_eq_true rfl) rfl (fun i M hi hM C' N' hC => iteT ⟨_, rfl, _, rfl, (by decide : (0 : Int) < 6), hC M Mle.refl⟩) fun m0 hm0 => ?_
    refine fun a dx na => c_init (by decide) mu_same fun p m1 A1 => ⟨rfl, ?_⟩
    obtain ⟨dx1, ho1⟩ := A1.ob
    refine ⟨_, rfl, a, dx1, _, rfl, ho1, fl_no _ _ (by decide +kernel) (by decide +kernel), ?_⟩
    refine ⟨_, rfl, 0, _, .d (.int 1), rfl, rfl, at_nat (n := 0) rfl, ?_⟩
    refine c_req A1 (i := 1) (k := 4) (rs' := ([⟨4, 1, true⟩] : List Rq)) (b := true) rfl rfl (fun m2 hm2 A2 => ?_)
    obtain ⟨dx2, ho2⟩ := A2.ob
    refine ⟨_, rfl, a, dx2, _, rfl, ho2, fl_no _ _ (by decide +kernel) (by decide +kernel), ?_⟩
    refine ⟨_, rfl, 1, _, .d (.int 2), rfl, rfl, at_nat (n := 1) rfl, ?_⟩
    refine c_req A2 (i := 2) (k := 4) (rs' := ([⟨4, 1, true⟩, ⟨4, 2, true⟩] : List Rq)) (b := true) rfl rfl (fun m3 hm3 A3 => ?_)
    obtain ⟨dx3, ho3⟩ := A3.ob
    refine ⟨_, rfl, a, dx3, _, rfl, ho3, fl_no _ _ (by decide +kernel) (by decide +kernel), ?_⟩
    refine ⟨_, rfl, 2, _, .d (.int 3), rfl, rfl, at_nat (n := 2) rfl, ?_⟩
    refine c_req A3 (i := 3) (k := 9) (rs' := ([⟨4, 1, true⟩, ⟨4, 2, true⟩, ⟨9, 3, false⟩] : List Rq)) (b := false) rfl rfl (fun m4 hm4 A4 => ?_)
    obtain ⟨dx4, ho4⟩ := A4.ob
    refine ⟨_, rfl, a, dx4, _, rfl, ho4, fl_no _ _ (by decide +kernel) (by decide +kernel), ?_⟩
    refine ⟨_, rfl, 3, _, .d (.int 4), rfl, rfl, at_nat (n := 3) rfl, ?_⟩
    refine c_req A4 (i := 4) (k := 2) (rs' := ([⟨4, 1, true⟩, ⟨4, 2, true⟩, ⟨9, 3, false⟩, ⟨2, 4, false⟩] : List Rq)) (b := false) rfl rfl (fun m5 hm5 A5 => ?_)
    refine ⟨Nat.le_of_ble_eq_true rfl, [.bool true, .bool true, .bool false, .bool false], rfl, ?_⟩
    refine ⟨_, rfl, ?_⟩
    obtain ⟨dx5, ho5⟩ := A5.ob
    refine ⟨_, rfl, a, dx5, _, rfl, ho5, fl_no _ _ (by decide +kernel) (by decide +kernel), ?_⟩
    refine ⟨_, rfl, 0, _, .d (.int 1), rfl, rfl, at_nat (n := 0) rfl, ?_⟩
    refine c_req A5 (i := 1) (k := 9) (rs' := ([⟨4, 1, true⟩, ⟨4, 2, true⟩, ⟨9, 3, false⟩, ⟨2, 4, false⟩, ⟨9, 1, false⟩] : List Rq)) (b := false) rfl rfl (fun m6 hm6 A6 => ?_)
    obtain ⟨dx6, ho6⟩ := A6.ob
    refine ⟨_, rfl, a, dx6, _, rfl, ho6, fl_no _ _ (by decide +kernel) (by decide +kernel), ?_⟩
    refine c_wait A6 (L := [.tuple [.int 2, .int 4], .tuple [.int 9, .int 3], .tuple [.int 9, .int 1]]) (wait_c (sv_c (I := [3, 2, 4]) (L := [(2, 3), (9, 2), (9, 4)]) (by decide) (by decide) rfl) rfl) (fun m7 hm7 A7 => ?_)
    obtain ⟨dx7, ho7⟩ := A7.ob
    refine ⟨_, rfl, a, dx7, _, rfl, ho7, fl_no _ _ (by decide +kernel) (by decide +kernel), ?_⟩
    refine ⟨_, rfl, 1, _, .d (.int 2), rfl, rfl, at_nat (n := 1) rfl, ?_⟩
    refine c_rel A7 (i := 2) (rs' := ([⟨4, 1, true⟩, ⟨9, 3, false⟩, ⟨2, 4, true⟩, ⟨9, 1, false⟩] : List Rq)) (d := .int 4) (rel_c (j := 1) rfl (sv_c (I := [2, 1, 3]) (L := [(2, 2), (9, 1), (9, 3)]) (by decide) (by decide) rfl) rfl) (fun m8 hm8 A8 => ?_)
    obtain ⟨dx8, ho8⟩ := A8.ob
    refine ⟨_, rfl, a, dx8, _, rfl, ho8, fl_no _ _ (by decide +kernel) (by decide +kernel), ?_⟩
    refine c_hold A8 (L := [.tuple [.int 4, .int 1], .tuple [.int 2, .int 4]]) rfl (fun m9 hm9 A9 => ?_)
    obtain ⟨dx9, ho9⟩ := A9.ob
    refine ⟨_, rfl, a, dx9, _, rfl, ho9, fl_no _ _ (by decide +kernel) (by decide +kernel), ?_⟩
    refine ⟨_, rfl, 0, _, .d (.int 1), rfl, rfl, at_nat (n := 0) rfl, ?_⟩
    refine c_rel A9 (i := 1) (rs' := ([⟨9, 3, true⟩, ⟨2, 4, true⟩, ⟨9, 1, false⟩] : List Rq)) (d := .int 3) (rel_c (j := 0) rfl (sv_c (I := [0, 2]) (L := [(9, 0), (9, 2)]) (by decide) (by decide) rfl) rfl) (fun m10 hm10 A10 => ?_)
    refine ⟨Nat.le_of_ble_eq_true rfl, [.bool false, .tuple [.tuple [.int 2, .int 4], .tuple [.int 9, .int 3], .tuple [.int 9, .int 1]], .int 4, .tuple [.tuple [.int 4, .int 1], .tuple [.int 2, .int 4]], .int 3], rfl, ?_⟩
    refine ⟨_, _, [.bool true, .bool true, .bool false, .bool false, .bool false, .tuple [.tuple [.int 2, .int 4], .tuple [.int 9, .int 3], .tuple [.int 9, .int 1]], .int 4, .tuple [.tuple [.int 4, .int 1], .tuple [.int 2, .int 4]], .int 3], rfl, rfl, Nat.le_of_ble_eq_true rfl, rfl, ?_⟩
    refine ⟨_, rfl, ?_⟩
    obtain ⟨dx10, ho10⟩ := A10.ob
    refine ⟨_, rfl, a, dx10, _, rfl, ho10, fl_no _ _ (by decide +kernel) (by decide +kernel), ?_⟩
    refine c_hold A10 (L := [.tuple [.int 9, .int 3], .tuple [.int 2, .int 4]]) rfl (fun m11 hm11 A11 => ?_)
    obtain ⟨dx11, ho11⟩ := A11.ob
    refine ⟨_, rfl, a, dx11, _, rfl, ho11, fl_no _ _ (by decide +kernel) (by decide +kernel), ?_⟩
    refine c_wait A11 (L := [.tuple [.int 9, .int 1]]) (wait_c (sv_c (I := [2]) (L := [(9, 2)]) (by decide) (by decide) rfl) rfl) (fun m12 hm12 A12 => ?_)
    refine ⟨_, rfl, ?_⟩
    refine ⟨_, rfl, 0, _, .d (.int 1), rfl, rfl, at_nat (n := 0) rfl, ?_⟩
    refine c_lrel0 A12 (by rfl) fun m13 hm13 A13 => ?_
    obtain ⟨dx13, ho13⟩ := A13.ob
    refine ⟨_, rfl, a, dx13, _, rfl, ho13, fl_no _ _ (by decide +kernel) (by decide +kernel), ?_⟩
    refine ⟨_, rfl, 3, _, .d (.int 4), rfl, rfl, at_nat (n := 3) rfl, ?_⟩
    refine c_rel A13 (i := 4) (rs' := ([⟨9, 3, true⟩, ⟨9, 1, true⟩] : List Rq)) (d := .int 1) (rel_c (j := 1) rfl (sv_c (I := [1]) (L := [(9, 1)]) (by decide) (by decide) rfl) rfl) (fun m14 hm14 A14 => ?_)
    refine ⟨Nat.le_of_ble_eq_true rfl, [.tuple [.tuple [.int 9, .int 3], .tuple [.int 2, .int 4]], .tuple [.tuple [.int 9, .int 1]], .none, .int 1], rfl, ?_⟩
    refine ⟨_, _, [.bool true, .bool true, .bool false, .bool false, .bool false, .tuple [.tuple [.int 2, .int 4], .tuple [.int 9, .int 3], .tuple [.int 9, .int 1]], .int 4, .tuple [.tuple [.int 4, .int 1], .tuple [.int 2, .int 4]], .int 3, .tuple [.tuple [.int 9, .int 3], .tuple [.int 2, .int 4]], .tuple [.tuple [.int 9, .int 1]], .none, .int 1], rfl, rfl, Nat.le_of_ble_eq_true rfl, rfl, ?_⟩
    refine ⟨_, rfl, ?_⟩
    obtain ⟨dx14, ho14⟩ := A14.ob
    refine ⟨_, rfl, a, dx14, _, rfl, ho14, fl_no _ _ (by decide +kernel) (by decide +kernel), ?_⟩
    refine c_hold A14 (L := [.tuple [.int 9, .int 3], .tuple [.int 9, .int 1]]) rfl (fun m15 hm15 A15 => ?_)
    obtain ⟨dx15, ho15⟩ := A15.ob
    refine ⟨_, rfl, a, dx15, _, rfl, ho15, c_len A15 (v := 0) (L := []) (wait_c (sv_c (I := []) (L := []) (by decide) (by decide) rfl) rfl) rfl fun m16 hm16 A16 => ?_⟩
    obtain ⟨dx16, ho16⟩ := A16.ob
    refine ⟨_, rfl, a, dx16, _, rfl, ho16, fl_no _ _ (by decide +kernel) (by decide +kernel), ?_⟩
    refine ⟨_, rfl, 0, _, .d (.int 1), rfl, rfl, at_nat (n := 0) rfl, ?_⟩
    refine c_rel A16 (i := 1) (rs' := ([⟨9, 3, true⟩] : List Rq)) (d := .none) (rel_c (j := 1) rfl (sv_c (I := []) (L := []) (by decide) (by decide) rfl) rfl) (fun m17 hm17 A17 => ?_)
    obtain ⟨dx17, ho17⟩ := A17.ob
    refine ⟨_, rfl, a, dx17, _, rfl, ho17, c_free A17 (v := 1) rfl fun m18 hm18 A18 => ?_⟩
    obtain ⟨dx18, ho18⟩ := A18.ob
    refine ⟨_, rfl, a, dx18, _, rfl, ho18, fl_no _ _ (by decide +kernel) (by decide +kernel), ?_⟩
    refine ⟨_, rfl, 2, _, .d (.int 3), rfl, rfl, at_nat (n := 2) rfl, ?_⟩
    refine c_rel A18 (i := 3) (rs' := ([] : List Rq)) (d := .none) (rel_c (j := 0) rfl (sv_c (I := []) (L := []) (by decide) (by decide) rfl) rfl) (fun m19 hm19 A19 => ?_)
    obtain ⟨dx19, ho19⟩ := A19.ob
    refine ⟨_, rfl, a, dx19, _, rfl, ho19, c_free A19 (v := 2) rfl fun m20 hm20 A20 => ?_⟩
    refine ⟨Nat.le_of_ble_eq_true rfl, [.tuple [.tuple [.int 9, .int 3], .tuple [.int 9, .int 1]], .int 0, .none, .int 1, .none, .int 2], rfl, ?_⟩
    refine ⟨_, _, [.bool true, .bool true, .bool false, .bool false, .bool false, .tuple [.tuple [.int 2, .int 4], .tuple [.int 9, .int 3], .tuple [.int 9, .int 1]], .int 4, .tuple [.tuple [.int 4, .int 1], .tuple [.int 2, .int 4]], .int 3, .tuple [.tuple [.int 9, .int 3], .tuple [.int 2, .int 4]], .tuple [.tuple [.int 9, .int 1]], .none, .int 1, .tuple [.tuple [.int 9, .int 3], .tuple [.int 9, .int 1]], .int 0, .none, .int 1, .none, .int 2], rfl, rfl, Nat.le_of_ble_eq_true rfl, rfl, ?_⟩
    refine ⟨_, rfl, 3, _, .d (.int 4), rfl, rfl, at_nat (n := 3) rfl, ?_⟩
    refine ⟨Nat.le_of_ble_eq_true rfl, mkT_l (ds := [.int 2, .int 4]) rfl ?_⟩
    refine ⟨_, rfl, 2, _, .d (.int 3), rfl, rfl, at_nat (n := 2) rfl, ?_⟩
    refine ⟨Nat.le_of_ble_eq_true rfl, mkT_l (ds := [.int 9, .int 3]) rfl ?_⟩
    refine ⟨_, rfl, 0, _, .d (.int 1), rfl, rfl, at_nat (n := 0) rfl, ?_⟩
    refine ⟨Nat.le_of_ble_eq_true rfl, mkT_l (ds := [.int 9, .int 1]) rfl ?_⟩
    refine ⟨Nat.le_of_ble_eq_true rfl, mkT_l (ds := [.tuple [.int 2, .int 4], .tuple [.int 9, .int 3], .tuple [.int 9, .int 1]]) rfl ?_⟩
    refine ⟨_, rfl, 3, _, .d (.int 4), rfl, rfl, at_nat (n := 3) rfl, ?_⟩
    refine ⟨_, rfl, 0, _, .d (.int 1), rfl, rfl, at_nat (n := 0) rfl, ?_⟩
    refine ⟨Nat.le_of_ble_eq_true rfl, mkT_l (ds := [.int 4, .int 1]) rfl ?_⟩
    refine ⟨_, rfl, 3, _, .d (.int 4), rfl, rfl, at_nat (n := 3) rfl, ?_⟩
    refine ⟨Nat.le_of_ble_eq_true rfl, mkT_l (ds := [.int 2, .int 4]) rfl ?_⟩
    refine ⟨Nat.le_of_ble_eq_true rfl, mkT_l (ds := [.tuple [.int 4, .int 1], .tuple [.int 2, .int 4]]) rfl ?_⟩
    refine ⟨Nat.le_of_ble_eq_true rfl, [.bool true, .bool true, .bool false, .bool false, .bool false, .tuple [.tuple [.int 2, .int 4], .tuple [.int 9, .int 3], .tuple [.int 9, .int 1]], .int 4, .tuple [.tuple [.int 4, .int 1], .tuple [.int 2, .int 4]]], rfl, ?_⟩
    refine ⟨_, rfl, ?_⟩
    refine ⟨_, rfl, 2, _, .d (.int 3), rfl, rfl, at_nat (n := 2) rfl, ?_⟩
    refine ⟨_, rfl, 2, _, .d (.int 3), rfl, rfl, at_nat (n := 2) rfl, ?_⟩
    refine ⟨Nat.le_of_ble_eq_true rfl, mkT_l (ds := [.int 9, .int 3]) rfl ?_⟩
    refine ⟨_, rfl, 3, _, .d (.int 4), rfl, rfl, at_nat (n := 3) rfl, ?_⟩
    refine ⟨Nat.le_of_ble_eq_true rfl, mkT_l (ds := [.int 2, .int 4]) rfl ?_⟩
    refine ⟨Nat.le_of_ble_eq_true rfl, mkT_l (ds := [.tuple [.int 9, .int 3], .tuple [.int 2, .int 4]]) rfl ?_⟩
    refine ⟨_, rfl, 0, _, .d (.int 1), rfl, rfl, at_nat (n := 0) rfl, ?_⟩
    refine ⟨Nat.le_of_ble_eq_true rfl, mkT_l (ds := [.int 9, .int 1]) rfl ?_⟩
    refine ⟨Nat.le_of_ble_eq_true rfl, mkT_l (ds := [.tuple [.int 9, .int 1]]) rfl ?_⟩
    refine ⟨_, rfl, 0, _, .d (.int 1), rfl, rfl, at_nat (n := 0) rfl, ?_⟩
    refine ⟨_, rfl, 2, _, .d (.int 3), rfl, rfl, at_nat (n := 2) rfl, ?_⟩
    refine ⟨Nat.le_of_ble_eq_true rfl, mkT_l (ds := [.int 9, .int 3]) rfl ?_⟩
    refine ⟨_, rfl, 0, _, .d (.int 1), rfl, rfl, at_nat (n := 0) rfl, ?_⟩
    refine ⟨Nat.le_of_ble_eq_true rfl, mkT_l (ds := [.int 9, .int 1]) rfl ?_⟩
    refine ⟨Nat.le_of_ble_eq_true rfl, mkT_l (ds := [.tuple [.int 9, .int 3], .tuple [.int 9, .int 1]]) rfl ?_⟩
    refine ⟨Nat.le_of_ble_eq_true rfl, [.int 3, .tuple [.tuple [.int 9, .int 3], .tuple [.int 2, .int 4]], .tuple [.tuple [.int 9, .int 1]], .none, .int 1, .tuple [.tuple [.int 9, .int 3], .tuple [.int 9, .int 1]], .int 0], rfl, ?_⟩
    refine ⟨_, _, [.bool true, .bool true, .bool false, .bool false, .bool false, .tuple [.tuple [.int 2, .int 4], .tuple [.int 9, .int 3], .tuple [.int 9, .int 1]], .int 4, .tuple [.tuple [.int 4, .int 1], .tuple [.int 2, .int 4]], .int 3, .tuple [.tuple [.int 9, .int 3], .tuple [.int 2, .int 4]], .tuple [.tuple [.int 9, .int 1]], .none, .int 1, .tuple [.tuple [.int 9, .int 3], .tuple [.int 9, .int 1]], .int 0], rfl, rfl, Nat.le_of_ble_eq_true rfl, rfl, ?_⟩
    refine ⟨_, rfl, ?_⟩
    refine ⟨_, rfl, ?_⟩
    refine ⟨Nat.le_of_ble_eq_true rfl, [.none, .int 1, .none, .int 2], rfl, ?_⟩
    refine ⟨_, _, [.bool true, .bool true, .bool false, .bool false, .bool false, .tuple [.tuple [.int 2, .int 4], .tuple [.int 9, .int 3], .tuple [.int 9, .int 1]], .int 4, .tuple [.tuple [.int 4, .int 1], .tuple [.int 2, .int 4]], .int 3, .tuple [.tuple [.int 9, .int 3], .tuple [.int 2, .int 4]], .tuple [.tuple [.int 9, .int 1]], .none, .int 1, .tuple [.tuple [.int 9, .int 3], .tuple [.int 9, .int 1]], .int 0, .none, .int 1, .none, .int 2], rfl, rfl, Nat.le_of_ble_eq_true rfl, rfl, ?_⟩
    exact ⟨.list [.bool true, .bool true, .bool false, .bool false, .bool false, .tuple [.tuple [.int 2, .int 4], .tuple [.int 9, .int 3], .tuple [.int 9, .int 1]], .int 4, .tuple [.tuple [.int 4, .int 1], .tuple [.int 2, .int 4]], .int 3, .tuple [.tuple [.int 9, .int 3], .tuple [.int 2, .int 4]], .tuple [.tuple [.int 9, .int 1]], .none, .int 1, .tuple [.tuple [.int 9, .int 3], .tuple [.int 9, .int 1]], .int 0, .none, .int 1, .none, .int 2], rfl, ⟨by decide +kernel, by decide +kernel, by decide +kernel, by decide +kernel⟩, h _⟩
  · refine ⟨6, rfl, by decide, by decide, ?_⟩
    refine lc_rngE (fun i => .int (((0 + (i : Int)) + 2) % 6)) [.int 2, .int 3, .int 4, .int 5, .int 0, .int 1] (Nat.le_of_ble_eq_true rfl) rfl (fun i M hi hM C' N' hC => iteT ⟨_, rfl, _, rfl, (by decide : (0 : Int) < 6), hC M Mle.refl⟩) fun m0 hm0 => ?_
    refine fun a dx na => c_init (by decide) mu_same fun p m1 A1 => ⟨rfl, ?_⟩
    obtain ⟨dx1, ho1⟩ := A1.ob
    refine ⟨_, rfl, a, dx1, _, rfl, ho1, fl_no _ _ (by decide +kernel) (by decide +kernel), ?_⟩
    refine ⟨_, rfl, 0, _, .d (.int 2), rfl, rfl, at_nat (n := 0) rfl, ?_⟩
    refine c_req A1 (i := 2) (k := 4) (rs' := ([⟨4, 2, true⟩] : List Rq)) (b := true) rfl rfl (fun m2 hm2 A2 => ?_)
    obtain ⟨dx2, ho2⟩ := A2.ob
    refine ⟨_, rfl, a, dx2, _, rfl, ho2, fl_no _ _ (by decide +kernel) (by decide +kernel), ?_⟩
    refine ⟨_, rfl, 1, _, .d (.int 3), rfl, rfl, at_nat (n := 1) rfl, ?_⟩
    refine c_req A2 (i := 3) (k := 4) (rs' := ([⟨4, 2, true⟩, ⟨4, 3, true⟩] : List Rq)) (b := true) rfl rfl (fun m3 hm3 A3 => ?_)
    obtain ⟨dx3, ho3⟩ := A3.ob
    refine ⟨_, rfl, a, dx3, _, rfl, ho3, fl_no _ _ (by decide +kernel) (by decide +kernel), ?_⟩
    refine ⟨_, rfl, 2, _, .d (.int 4), rfl, rfl, at_nat (n := 2) rfl, ?_⟩
    refine c_req A3 (i := 4) (k := 9) (rs' := ([⟨4, 2, true⟩, ⟨4, 3, true⟩, ⟨9, 4, false⟩] : List Rq)) (b := false) rfl rfl (fun m4 hm4 A4 => ?_)
    obtain ⟨dx4, ho4⟩ := A4.ob
    refine ⟨_, rfl, a, dx4, _, rfl, ho4, fl_no _ _ (by decide +kernel) (by decide +kernel), ?_⟩
    refine ⟨_, rfl, 3, _, .d (.int 5), rfl, rfl, at_nat (n := 3) rfl, ?_⟩
    refine c_req A4 (i := 5) (k := 2) (rs' := ([⟨4, 2, true⟩, ⟨4, 3, true⟩, ⟨9, 4, false⟩, ⟨2, 5, false⟩] : List Rq)) (b := false) rfl rfl (fun m5 hm5 A5 => ?_)
    refine ⟨Nat.le_of_ble_eq_true rfl, [.bool true, .bool true, .bool false, .bool false], rfl, ?_⟩
    refine ⟨_, rfl, ?_⟩
    obtain ⟨dx5, ho5⟩ := A5.ob
    refine ⟨_, rfl, a, dx5, _, rfl, ho5, fl_no _ _ (by decide +kernel) (by decide +kernel), ?_⟩
    refine ⟨_, rfl, 0, _, .d (.int 2), rfl, rfl, at_nat (n := 0) rfl, ?_⟩
    refine c_req A5 (i := 2) (k := 9) (rs' := ([⟨4, 2, true⟩, ⟨4, 3, true⟩, ⟨9, 4, false⟩, ⟨2, 5, false⟩, ⟨9, 2, false⟩] : List Rq)) (b := false) rfl rfl (fun m6 hm6 A6 => ?_)
    obtain ⟨dx6, ho6⟩ := A6.ob
    refine ⟨_, rfl, a, dx6, _, rfl, ho6, fl_no _ _ (by decide +kernel) (by decide +kernel), ?_⟩
    refine c_wait A6 (L := [.tuple [.int 2, .int 5], .tuple [.int 9, .int 4], .tuple [.int 9, .int 2]]) (wait_c (sv_c (I := [3, 2, 4]) (L := [(2, 3), (9, 2), (9, 4)]) (by decide) (by decide) rfl) rfl) (fun m7 hm7 A7 => ?_)
    obtain ⟨dx7, ho7⟩ := A7.ob
    refine ⟨_, rfl, a, dx7, _, rfl, ho7, fl_no _ _ (by decide +kernel) (by decide +kernel), ?_⟩
    refine ⟨_, rfl, 1, _, .d (.int 3), rfl, rfl, at_nat (n := 1) rfl, ?_⟩
    refine c_rel A7 (i := 3) (rs' := ([⟨4, 2, true⟩, ⟨9, 4, false⟩, ⟨2, 5, true⟩, ⟨9, 2, false⟩] : List Rq)) (d := .int 5) (rel_c (j := 1) rfl (sv_c (I := [2, 1, 3]) (L := [(2, 2), (9, 1), (9, 3)]) (by decide) (by decide) rfl) rfl) (fun m8 hm8 A8 => ?_)
    obtain ⟨dx8, ho8⟩ := A8.ob
    refine ⟨_, rfl, a, dx8, _, rfl, ho8, fl_no _ _ (by decide +kernel) (by decide +kernel), ?_⟩
    refine c_hold A8 (L := [.tuple [.int 4, .int 2], .tuple [.int 2, .int 5]]) rfl (fun m9 hm9 A9 => ?_)
    obtain ⟨dx9, ho9⟩ := A9.ob
    refine ⟨_, rfl, a, dx9, _, rfl, ho9, fl_no _ _ (by decide +kernel) (by decide +kernel), ?_⟩
    refine ⟨_, rfl, 0, _, .d (.int 2), rfl, rfl, at_nat (n := 0) rfl, ?_⟩
    refine c_rel A9 (i := 2) (rs' := ([⟨9, 4, true⟩, ⟨2, 5, true⟩, ⟨9, 2, false⟩] : List Rq)) (d := .int 4) (rel_c (j := 0) rfl (sv_c (I := [0, 2]) (L := [(9, 0), (9, 2)]) (by decide) (by decide) rfl) rfl) (fun m10 hm10 A10 => ?_)
    refine ⟨Nat.le_of_ble_eq_true rfl, [.bool false, .tuple [.tuple [.int 2, .int 5], .tuple [.int 9, .int 4], .tuple [.int 9, .int 2]], .int 5, .tuple [.tuple [.int 4, .int 2], .tuple [.int 2, .int 5]], .int 4], rfl, ?_⟩
    refine ⟨_, _, [.bool true, .bool true, .bool false, .bool false, .bool false, .tuple [.tuple [.int 2, .int 5], .tuple [.int 9, .int 4], .tuple [.int 9, .int 2]], .int 5, .tuple [.tuple [.int 4, .int 2], .tuple [.int 2, .int 5]], .int 4], rfl, rfl, Nat.le_of_ble_eq_true rfl, rfl, ?_⟩
    refine ⟨_, rfl, ?_⟩
    obtain ⟨dx10, ho10⟩ := A10.ob
    refine ⟨_, rfl, a, dx10, _, rfl, ho10, fl_no _ _ (by decide +kernel) (by decide +kernel), ?_⟩
    refine c_hold A10 (L := [.tuple [.int 9, .int 4], .tuple [.int 2, .int 5]]) rfl (fun m11 hm11 A11 => ?_)
    obtain ⟨dx11, ho11⟩ := A11.ob
    refine ⟨_, rfl, a, dx11, _, rfl, ho11, fl_no _ _ (by decide +kernel) (by decide +kernel), ?_⟩
    refine c_wait A11 (L := [.tuple [.int 9, .int 2]]) (wait_c (sv_c (I := [2]) (L := [(9, 2)]) (by decide) (by decide) rfl) rfl) (fun m12 hm12 A12 => ?_)
    refine ⟨_, rfl, ?_⟩
    refine ⟨_, rfl, 0, _, .d (.int 2), rfl, rfl, at_nat (n := 0) rfl, ?_⟩
    refine c_lrel0 A12 (by rfl) fun m13 hm13 A13 => ?_
    obtain ⟨dx13, ho13⟩ := A13.ob
    refine ⟨_, rfl, a, dx13, _, rfl, ho13, fl_no _ _ (by decide +kernel) (by decide +kernel), ?_⟩
    refine ⟨_, rfl, 3, _, .d (.int 5), rfl, rfl, at_nat (n := 3) rfl, ?_⟩
    refine c_rel A13 (i := 5) (rs' := ([⟨9, 4, true⟩, ⟨9, 2, true⟩] : List Rq)) (d := .int 2) (rel_c (j := 1) rfl (sv_c (I := [1]) (L := [(9, 1)]) (by decide) (by decide) rfl) rfl) (fun m14 hm14 A14 => ?_)
    refine ⟨Nat.le_of_ble_eq_true rfl, [.tuple [.tuple [.int 9, .int 4], .tuple [.int 2, .int 5]], .tuple [.tuple [.int 9, .int 2]], .none, .int 2], rfl, ?_⟩
    refine ⟨_, _, [.bool true, .bool true, .bool false, .bool false, .bool false, .tuple [.tuple [.int 2, .int 5], .tuple [.int 9, .int 4], .tuple [.int 9, .int 2]], .int 5, .tuple [.tuple [.int 4, .int 2], .tuple [.int 2, .int 5]], .int 4, .tuple [.tuple [.int 9, .int 4], .tuple [.int 2, .int 5]], .tuple [.tuple [.int 9, .int 2]], .none, .int 2], rfl, rfl, Nat.le_of_ble_eq_true rfl, rfl, ?_⟩
    refine ⟨_, rfl, ?_⟩
    obtain ⟨dx14, ho14⟩ := A14.ob
    refine ⟨_, rfl, a, dx14, _, rfl, ho14, fl_no _ _ (by decide +kernel) (by decide +kernel), ?_⟩
    refine c_hold A14 (L := [.tuple [.int 9, .int 4], .tuple [.int 9, .int 2]]) rfl (fun m15 hm15 A15 => ?_)
    obtain ⟨dx15, ho15⟩ := A15.ob
    refine ⟨_, rfl, a, dx15, _, rfl, ho15, c_len A15 (v := 0) (L := []) (wait_c (sv_c (I := []) (L := []) (by decide) (by decide) rfl) rfl) rfl fun m16 hm16 A16 => ?_⟩
    obtain ⟨dx16, ho16⟩ := A16.ob
    refine ⟨_, rfl, a, dx16, _, rfl, ho16, fl_no _ _ (by decide +kernel) (by decide +kernel), ?_⟩
    refine ⟨_, rfl, 0, _, .d (.int 2), rfl, rfl, at_nat (n := 0) rfl, ?_⟩
    refine c_rel A16 (i := 2) (rs' := ([⟨9, 4, true⟩] : List Rq)) (d := .none) (rel_c (j := 1) rfl (sv_c (I := []) (L := []) (by decide) (by decide) rfl) rfl) (fun m17 hm17 A17 => ?_)
    obtain ⟨dx17, ho17⟩ := A17.ob
    refine ⟨_, rfl, a, dx17, _, rfl, ho17, c_free A17 (v := 1) rfl fun m18 hm18 A18 => ?_⟩
    obtain ⟨dx18, ho18⟩ := A18.ob
    refine ⟨_, rfl, a, dx18, _, rfl, ho18, fl_no _ _ (by decide +kernel) (by decide +kernel), ?_⟩
    refine ⟨_, rfl, 2, _, .d (.int 4), rfl, rfl, at_nat (n := 2) rfl, ?_⟩
    refine c_rel A18 (i := 4) (rs' := ([] : List Rq)) (d := .none) (rel_c (j := 0) rfl (sv_c (I := []) (L := []) (by decide) (by decide) rfl) rfl) (fun m19 hm19 A19 => ?_)
    obtain ⟨dx19, ho19⟩ := A19.ob
    refine ⟨_, rfl, a, dx19, _, rfl, ho19, c_free A19 (v := 2) rfl fun m20 hm20 A20 => ?_⟩
    refine ⟨Nat.le_of_ble_eq_true rfl, [.tuple [.tuple [.int 9, .int 4], .tuple [.int 9, .int 2]], .int 0, .none, .int 1, .none, .int 2], rfl, ?_⟩
    refine ⟨_, _, [.bool true, .bool true, .bool false, .bool false, .bool false, .tuple [.tuple [.int 2, .int 5], .tuple [.int 9, .int 4], .tuple [.int 9, .int 2]], .int 5, .tuple [.tuple [.int 4, .int 2], .tuple [.int 2, .int 5]], .int 4, .tuple [.tuple [.int 9, .int 4], .tuple [.int 2, .int 5]], .tuple [.tuple [.int 9, .int 2]], .none, .int 2, .tuple [.tuple [.int 9, .int 4], .tuple [.int 9, .int 2]], .int 0, .none, .int 1, .none, .int 2], rfl, rfl, Nat.le_of_ble_eq_true rfl, rfl, ?_⟩
    refine ⟨_, rfl, 3, _, .d (.int 5), rfl, rfl, at_nat (n := 3) rfl, ?_⟩
    refine ⟨Nat.le_of_ble_eq_true rfl, mkT_l (ds := [.int 2, .int 5]) rfl ?_⟩
    refine ⟨_, rfl, 2, _, .d (.int 4), rfl, rfl, at_nat (n := 2) rfl, ?_⟩
    refine ⟨Nat.le_of_ble_eq_true rfl, mkT_l (ds := [.int 9, .int 4]) rfl ?_⟩
    refine ⟨_, rfl, 0, _, .d (.int 2), rfl, rfl, at_nat (n := 0) rfl, ?_⟩
    refine ⟨Nat.le_of_ble_eq_true rfl, mkT_l (ds := [.int 9, .int 2]) rfl ?_⟩
    refine ⟨Nat.le_of_ble_eq_true rfl, mkT_l (ds := [.tuple [.int 2, .int 5], .tuple [.int 9, .int 4], .tuple [.int 9, .int 2]]) rfl ?_⟩
    refine ⟨_, rfl, 3, _, .d (.int 5), rfl, rfl, at_nat (n := 3) rfl, ?_⟩
    refine ⟨_, rfl, 0, _, .d (.int 2), rfl, rfl, at_nat (n := 0) rfl, ?_⟩
    refine ⟨Nat.le_of_ble_eq_true rfl, mkT_l (ds := [.int 4, .int 2]) rfl ?_⟩
    refine ⟨_, rfl, 3, _, .d (.int 5), rfl, rfl, at_nat (n := 3) rfl, ?_⟩
    refine ⟨Nat.le_of_ble_eq_true rfl, mkT_l (ds := [.int 2, .int 5]) rfl ?_⟩
    refine ⟨Nat.le_of_ble_eq_true rfl, mkT_l (ds := [.tuple [.int 4, .int 2], .tuple [.int 2, .int 5]]) rfl ?_⟩
    refine ⟨Nat.le_of_ble_eq_true rfl, [.bool true, .bool true, .bool false, .bool false, .bool false, .tuple [.tuple [.int 2, .int 5], .tuple [.int 9, .int 4], .tuple [.int 9, .int 2]], .int 5, .tuple [.tuple [.int 4, .int 2], .tuple [.int 2, .int 5]]], rfl, ?_⟩
    refine ⟨_, rfl, ?_⟩
    refine ⟨_, rfl, 2, _, .d (.int 4), rfl, rfl, at_nat (n := 2) rfl, ?_⟩
    refine ⟨_, rfl, 2, _, .d (.int 4), rfl, rfl, at_nat (n := 2) rfl, ?_⟩
    refine ⟨Nat.le_of_ble_eq_true rfl, mkT_l (ds := [.int 9, .int 4]) rfl ?_⟩
    refine ⟨_, rfl, 3, _, .d (.int 5), rfl, rfl, at_nat (n := 3) rfl, ?_⟩
    refine ⟨Nat.le_of_ble_eq_true rfl, mkT_l (ds := [.int 2, .int 5]) rfl ?_⟩
    refine ⟨Nat.le_of_ble_eq_true rfl, mkT_l (ds := [.tuple [.int 9, .int 4], .tuple [.int 2, .int 5]]) rfl ?_⟩
    refine ⟨_, rfl, 0, _, .d (.int 2), rfl, rfl, at_nat (n := 0) rfl, ?_⟩
    refine ⟨Nat.le_of_ble_eq_true rfl, mkT_l (ds := [.int 9, .int 2]) rfl ?_⟩
    refine ⟨Nat.le_of_ble_eq_true rfl, mkT_l (ds := [.tuple [.int 9, .int 2]]) rfl ?_⟩
    refine ⟨_, rfl, 0, _, .d (.int 2), rfl, rfl, at_nat (n := 0) rfl, ?_⟩
    refine ⟨_, rfl, 2, _, .d (.int 4), rfl, rfl, at_nat (n := 2) rfl, ?_⟩
    refine ⟨Nat.le_of_ble_eq_true rfl, mkT_l (ds := [.int 9, .int 4]) rfl ?_⟩
    refine ⟨_, rfl, 0, _, .d (.int 2), rfl, rfl, at_nat (n := 0) rfl, ?_⟩
    refine ⟨Nat.le_of_ble_eq_true rfl, mkT_l (ds := [.int 9, .int 2]) rfl ?_⟩
    refine ⟨Nat.le_of_ble_eq_true rfl, mkT_l (ds := [.tuple [.int 9, .int 4], .tuple [.int 9, .int 2]]) rfl ?_⟩
    refine ⟨Nat.le_of_ble_eq_true rfl, [.int 4, .tuple [.tuple [.int 9, .int 4], .tuple [.int 2, .int 5]], .tuple [.tuple [.int 9, .int 2]], .none, .int 2, .tuple [.tuple [.int 9, .int 4], .tuple [.int 9, .int 2]], .int 0], rfl, ?_⟩
    refine ⟨_, _, [.bool true, .bool true, .bool false, .bool false, .bool false, .tuple [.tuple [.int 2, .int 5], .tuple [.int 9, .int 4], .tuple [.int 9, .int 2]], .int 5, .tuple [.tuple [.int 4, .int 2], .tuple [.int 2, .int 5]], .int 4, .tuple [.tuple [.int 9, .int 4], .tuple [.int 2, .int 5]], .tuple [.tuple [.int 9, .int 2]], .none, .int 2, .tuple [.tuple [.int 9, .int 4], .tuple [.int 9, .int 2]], .int 0], rfl, rfl, Nat.le_of_ble_eq_true rfl, rfl, ?_⟩
    refine ⟨_, rfl, ?_⟩
    refine ⟨_, rfl, ?_⟩
    refine ⟨Nat.le_of_ble_eq_true rfl, [.none, .int 1, .none, .int 2], rfl, ?_⟩
    refine ⟨_, _, [.bool true, .bool true, .bool false, .bool false, .bool false, .tuple [.tuple [.int 2, .int 5], .tuple [.int 9, .int 4], .tuple [.int 9, .int 2]], .int 5, .tuple [.tuple [.int 4, .int 2], .tuple [.int 2, .int 5]], .int 4, .tuple [.tuple [.int 9, .int 4], .tuple [.int 2, .int 5]], .tuple [.tuple [.int 9, .int 2]], .none, .int 2, .tuple [.tuple [.int 9, .int 4], .tuple [.int 9, .int 2]], .int 0, .none, .int 1, .none, .int 2], rfl, rfl, Nat.le_of_ble_eq_true rfl, rfl, ?_⟩
    exact ⟨.list [.bool true, .bool true, .bool false, .bool false, .bool false, .tuple [.tuple [.int 2, .int 5], .tuple [.int 9, .int 4], .tuple [.int 9, .int 2]], .int 5, .tuple [.tuple [.int 4, .int 2], .tuple [.int 2, .int 5]], .int 4, .tuple [.tuple [.int 9, .int 4], .tuple [.int 2, .int 5]], .tuple [.tuple [.int 9, .int 2]], .none, .int 2, .tuple [.tuple [.int 9, .int 4], .tuple [.int 9, .int 2]], .int 0, .none, .int 1, .none, .int 2], rfl, ⟨by decide +kernel, by decide +kernel, by decide +kernel, by decide +kernel⟩, h _⟩
  · refine ⟨6, rfl, by decide, by decide, ?_⟩
    refine lc_rngE (fun i => .int (((0 + (i : Int)) + 3) % 6)) [.int 3, .int 4, .int 5, .int 0, .int 1, .int 2] (Nat.le_of_ble_eq_true rfl) rfl (fun i M hi hM C' N' hC => iteT ⟨_, rfl, _, rfl, (by decide : (0 : Int) < 6), hC M Mle.refl⟩) fun m0 hm0 => ?_
    refine fun a dx na => c_init (by decide) mu_same fun p m1 A1 => ⟨rfl, ?_⟩
    obtain ⟨dx1, ho1⟩ := A1.ob
    refine ⟨_, rfl, a, dx1, _, rfl, ho1, fl_no _ _ (by decide +kernel) (by decide +kernel), ?_⟩
    refine ⟨_, rfl, 0, _, .d (.int 3), rfl, rfl, at_nat (n := 0) rfl, ?_⟩
    refine c_req A1 (i := 3) (k := 4) (rs' := ([⟨4, 3, true⟩] : List Rq)) (b := true) rfl rfl (fun m2 hm2 A2 => ?_)
    obtain ⟨dx2, ho2⟩ := A2.ob
    refine ⟨_, rfl, a, dx2, _, rfl, ho2, fl_no _ _ (by decide +kernel) (by decide +kernel), ?_⟩
    refine ⟨_, rfl, 1, _, .d (.int 4), rfl, rfl, at_nat (n := 1) rfl, ?_⟩
    refine c_req A2 (i := 4) (k := 4) (rs' := ([⟨4, 3, true⟩, ⟨4, 4, true⟩] : List Rq)) (b := true) rfl rfl (fun m3 hm3 A3 => ?_)
    obtain ⟨dx3, ho3⟩ := A3.ob
    refine ⟨_, rfl, a, dx3, _, rfl, ho3, fl_no _ _ (by decide +kernel) (by decide +kernel), ?_⟩
    refine ⟨_, rfl, 2, _, .d (.int 5), rfl, rfl, at_nat (n := 2) rfl, ?_⟩
    refine c_req A3 (i := 5) (k := 9) (rs' := ([⟨4, 3, true⟩, ⟨4, 4, true⟩, ⟨9, 5, false⟩] : List Rq)) (b := false) rfl rfl (fun m4 hm4 A4 => ?_)
    obtain ⟨dx4, ho4⟩ := A4.ob
    refine ⟨_, rfl, a, dx4, _, rfl, ho4, fl_no _ _ (by decide +kernel) (by decide +kernel), ?_⟩
    refine ⟨_, rfl, 3, _, .d (.int 0), rfl, rfl, at_nat (n := 3) rfl, ?_⟩
    refine c_req A4 (i := 0) (k := 2) (rs' := ([⟨4, 3, true⟩, ⟨4, 4, true⟩, ⟨9, 5, false⟩, ⟨2, 0, false⟩] : List Rq)) (b := false) rfl rfl (fun m5 hm5 A5 => ?_)
    refine ⟨Nat.le_of_ble_eq_true rfl, [.bool true, .bool true, .bool false, .bool false], rfl, ?_⟩
    refine ⟨_, rfl, ?_⟩
    obtain ⟨dx5, ho5⟩ := A5.ob
    refine ⟨_, rfl, a, dx5, _, rfl, ho5, fl_no _ _ (by decide +kernel) (by decide +kernel), ?_⟩
    refine ⟨_, rfl, 0, _, .d (.int 3), rfl, rfl, at_nat (n := 0) rfl, ?_⟩
    refine c_req A5 (i := 3) (k := 9) (rs' := ([⟨4, 3, true⟩, ⟨4, 4, true⟩, ⟨9, 5, false⟩, ⟨2, 0, false⟩, ⟨9, 3, false⟩] : List Rq)) (b := false) rfl rfl (fun m6 hm6 A6 => ?_)
    obtain ⟨dx6, ho6⟩ := A6.ob
    refine ⟨_, rfl, a, dx6, _, rfl, ho6, fl_no _ _ (by decide +kernel) (by decide +kernel), ?_⟩
    refine c_wait A6 (L := [.tuple [.int 2, .int 0], .tuple [.int 9, .int 5], .tuple [.int 9, .int 3]]) (wait_c (sv_c (I := [3, 2, 4]) (L := [(2, 3), (9, 2), (9, 4)]) (by decide) (by decide) rfl) rfl) (fun m7 hm7 A7 => ?_)
    obtain ⟨dx7, ho7⟩ := A7.ob
    refine ⟨_, rfl, a, dx7, _, rfl, ho7, fl_no _ _ (by decide +kernel) (by decide +kernel), ?_⟩
    refine ⟨_, rfl, 1, _, .d (.int 4), rfl, rfl, at_nat (n := 1) rfl, ?_⟩
    refine c_rel A7 (i := 4) (rs' := ([⟨4, 3, true⟩, ⟨9, 5, false⟩, ⟨2, 0, true⟩, ⟨9, 3, false⟩] : List Rq)) (d := .int 0) (rel_c (j := 1) rfl (sv_c (I := [2, 1, 3]) (L := [(2, 2), (9, 1), (9, 3)]) (by decide) (by decide) rfl) rfl) (fun m8 hm8 A8 => ?_)
    obtain ⟨dx8, ho8⟩ := A8.ob
    refine ⟨_, rfl, a, dx8, _, rfl, ho8, fl_no _ _ (by decide +kernel) (by decide +kernel), ?_⟩
    refine c_hold A8 (L := [.tuple [.int 4, .int 3], .tuple [.int 2, .int 0]]) rfl (fun m9 hm9 A9 => ?_)
    obtain ⟨dx9, ho9⟩ := A9.ob
    refine ⟨_, rfl, a, dx9, _, rfl, ho9, fl_no _ _ (by decide +kernel) (by decide +kernel), ?_⟩
    refine ⟨_, rfl, 0, _, .d (.int 3), rfl, rfl, at_nat (n := 0) rfl, ?_⟩
    refine c_rel A9 (i := 3) (rs' := ([⟨9, 5, true⟩, ⟨2, 0, true⟩, ⟨9, 3, false⟩] : List Rq)) (d := .int 5) (rel_c (j := 0) rfl (sv_c (I := [0, 2]) (L := [(9, 0), (9, 2)]) (by decide) (by decide) rfl) rfl) (fun m10 hm10 A10 => ?_)
    refine ⟨Nat.le_of_ble_eq_true rfl, [.bool false, .tuple [.tuple [.int 2, .int 0], .tuple [.int 9, .int 5], .tuple [.int 9, .int 3]], .int 0, .tuple [.tuple [.int 4, .int 3], .tuple [.int 2, .int 0]], .int 5], rfl, ?_⟩
    refine ⟨_, _, [.bool true, .bool true, .bool false, .bool false, .bool false, .tuple [.tuple [.int 2, .int 0], .tuple [.int 9, .int 5], .tuple [.int 9, .int 3]], .int 0, .tuple [.tuple [.int 4, .int 3], .tuple [.int 2, .int 0]], .int 5], rfl, rfl, Nat.le_of_ble_eq_true rfl, rfl, ?_⟩
    refine ⟨_, rfl, ?_⟩
    obtain ⟨dx10, ho10⟩ := A10.ob
    refine ⟨_, rfl, a, dx10, _, rfl, ho10, fl_no _ _ (by decide +kernel) (by decide +kernel), ?_⟩
    refine c_hold A10 (L := [.tuple [.int 9, .int 5], .tuple [.int 2, .int 0]]) rfl (fun m11 hm11 A11 => ?_)
    obtain ⟨dx11, ho11⟩ := A11.ob
    refine ⟨_, rfl, a, dx11, _, rfl, ho11, fl_no _ _ (by decide +kernel) (by decide +kernel), ?_⟩
    refine c_wait A11 (L := [.tuple [.int 9, .int 3]]) (wait_c (sv_c (I := [2]) (L := [(9, 2)]) (by decide) (by decide) rfl) rfl) (fun m12 hm12 A12 => ?_)
    refine ⟨_, rfl, ?_⟩
    refine ⟨_, rfl, 0, _, .d (.int 3), rfl, rfl, at_nat (n := 0) rfl, ?_⟩
    refine c_lrel0 A12 (by rfl) fun m13 hm13 A13 => ?_
    obtain ⟨dx13, ho13⟩ := A13.ob
    refine ⟨_, rfl, a, dx13, _, rfl, ho13, fl_no _ _ (by decide +kernel) (by decide +kernel), ?_⟩
    refine ⟨_, rfl, 3, _, .d (.int 0), rfl, rfl, at_nat (n := 3) rfl, ?_⟩
    refine c_rel A13 (i := 0) (rs' := ([⟨9, 5, true⟩, ⟨9, 3, true⟩] : List Rq)) (d := .int 3) (rel_c (j := 1) rfl (sv_c (I := [1]) (L := [(9, 1)]) (by decide) (by decide) rfl) rfl) (fun m14 hm14 A14 => ?_)
    refine ⟨Nat.le_of_ble_eq_true rfl, [.tuple [.tuple [.int 9, .int 5], .tuple [.int 2, .int 0]], .tuple [.tuple [.int 9, .int 3]], .none, .int 3], rfl, ?_⟩
    refine ⟨_, _, [.bool true, .bool true, .bool false, .bool false, .bool false, .tuple [.tuple [.int 2, .int 0], .tuple [.int 9, .int 5], .tuple [.int 9, .int 3]], .int 0, .tuple [.tuple [.int 4, .int 3], .tuple [.int 2, .int 0]], .int 5, .tuple [.tuple [.int 9, .int 5], .tuple [.int 2, .int 0]], .tuple [.tuple [.int 9, .int 3]], .none, .int 3], rfl, rfl, Nat.le_of_ble_eq_true rfl, rfl, ?_⟩
    refine ⟨_, rfl, ?_⟩
    obtain ⟨dx14, ho14⟩ := A14.ob
    refine ⟨_, rfl, a, dx14, _, rfl, ho14, fl_no _ _ (by decide +kernel) (by decide +kernel), ?_⟩
    refine c_hold A14 (L := [.tuple [.int 9, .int 5], .tuple [.int 9, .int 3]]) rfl (fun m15 hm15 A15 => ?_)
    obtain ⟨dx15, ho15⟩ := A15.ob
    refine ⟨_, rfl, a, dx15, _, rfl, ho15, c_len A15 (v := 0) (L := []) (wait_c (sv_c (I := []) (L := []) (by decide) (by decide) rfl) rfl) rfl fun m16 hm16 A16 => ?_⟩
    obtain ⟨dx16, ho16⟩ := A16.ob
    refine ⟨_, rfl, a, dx16, _, rfl, ho16, fl_no _ _ (by decide +kernel) (by decide +kernel), ?_⟩
    refine ⟨_, rfl, 0, _, .d (.int 3), rfl, rfl, at_nat (n := 0) rfl, ?_⟩
    refine c_rel A16 (i := 3) (rs' := ([⟨9, 5, true⟩] : List Rq)) (d := .none) (rel_c (j := 1) rfl (sv_c (I := []) (L := []) (by decide) (by decide) rfl) rfl) (fun m17 hm17 A17 => ?_)
    obtain ⟨dx17, ho17⟩ := A17.ob
    refine ⟨_, rfl, a, dx17, _, rfl, ho17, c_free A17 (v := 1) rfl fun m18 hm18 A18 => ?_⟩
    obtain ⟨dx18, ho18⟩ := A18.ob
    refine ⟨_, rfl, a, dx18, _, rfl, ho18, fl_no _ _ (by decide +kernel) (by decide +kernel), ?_⟩
    refine ⟨_, rfl, 2, _, .d (.int 5), rfl, rfl, at_nat (n := 2) rfl, ?_⟩
    refine c_rel A18 (i := 5) (rs' := ([] : List Rq)) (d := .none) (rel_c (j := 0) rfl (sv_c (I := []) (L := []) (by decide) (by decide) rfl) rfl) (fun m19 hm19 A19 => ?_)
    obtain ⟨dx19, ho19⟩ := A19.ob
    refine ⟨_, rfl, a, dx19, _, rfl, ho19, c_free A19 (v := 2) rfl fun m20 hm20 A20 => ?_⟩
    refine ⟨Nat.le_of_ble_eq_true rfl, [.tuple [.tuple [.int 9, .int 5], .tuple [.int 9, .int 3]], .int 0, .none, .int 1, .none, .int 2], rfl, ?_⟩
    refine ⟨_, _, [.bool true, .bool true, .bool false, .bool false, .bool false, .tuple [.tuple [.int 2, .int 0], .tuple [.int 9, .int 5], .tuple [.int 9, .int 3]], .int 0, .tuple [.tuple [.int 4, .int 3], .tuple [.int 2, .int 0]], .int 5, .tuple [.tuple [.int 9, .int 5], .tuple [.int 2, .int 0]], .tuple [.tuple [.int 9, .int 3]], .none, .int 3, .tuple [.tuple [.int 9, .int 5], .tuple [.int 9, .int 3]], .int 0, .none, .int 1, .none, .int 2], rfl, rfl, Nat.le_of_ble_eq_true rfl, rfl, ?_⟩
    refine ⟨_, rfl, 3, _, .d (.int 0), rfl, rfl, at_nat (n := 3) rfl, ?_⟩
    refine ⟨Nat.le_of_ble_eq_true rfl, mkT_l (ds := [.int 2, .int 0]) rfl ?_⟩
    refine ⟨_, rfl, 2, _, .d (.int 5), rfl, rfl, at_nat (n := 2) rfl, ?_⟩
    refine ⟨Nat.le_of_ble_eq_true rfl, mkT_l (ds := [.int 9, .int 5]) rfl ?_⟩
    refine ⟨_, rfl, 0, _, .d (.int 3), rfl, rfl, at_nat (n := 0) rfl, ?_⟩
    refine ⟨Nat.le_of_ble_eq_true rfl, mkT_l (ds := [.int 9, .int 3]) rfl ?_⟩
    refine ⟨Nat.le_of_ble_eq_true rfl, mkT_l (ds := [.tuple [.int 2, .int 0], .tuple [.int 9, .int 5], .tuple [.int 9, .int 3]]) rfl ?_⟩
    refine ⟨_, rfl, 3, _, .d (.int 0), rfl, rfl, at_nat (n := 3) rfl, ?_⟩
    refine ⟨_, rfl, 0, _, .d (.int 3), rfl, rfl, at_nat (n := 0) rfl, ?_⟩
    refine ⟨Nat.le_of_ble_eq_true rfl, mkT_l (ds := [.int 4, .int 3]) rfl ?_⟩
    refine ⟨_, rfl, 3, _, .d (.int 0), rfl, rfl, at_nat (n := 3) rfl, ?_⟩
    refine ⟨Nat.le_of_ble_eq_true rfl, mkT_l (ds := [.int 2, .int 0]) rfl ?_⟩
    refine ⟨Nat.le_of_ble_eq_true rfl, mkT_l (ds := [.tuple [.int 4, .int 3], .tuple [.int 2, .int 0]]) rfl ?_⟩
    refine ⟨Nat.le_of_ble_eq_true rfl, [.bool true, .bool true, .bool false, .bool false, .bool false, .tuple [.tuple [.int 2, .int 0], .tuple [.int 9, .int 5], .tuple [.int 9, .int 3]], .int 0, .tuple [.tuple [.int 4, .int 3], .tuple [.int 2, .int 0]]], rfl, ?_⟩
    refine ⟨_, rfl, ?_⟩
    refine ⟨_, rfl, 2, _, .d (.int 5), rfl, rfl, at_nat (n := 2) rfl, ?_⟩
    refine ⟨_, rfl, 2, _, .d (.int 5), rfl, rfl, at_nat (n := 2) rfl, ?_⟩
    refine ⟨Nat.le_of_ble_eq_true rfl, mkT_l (ds := [.int 9, .int 5]) rfl ?_⟩
    refine ⟨_, rfl, 3, _, .d (.int 0), rfl, rfl, at_nat (n := 3) rfl, ?_⟩
    refine ⟨Nat.le_of_ble_eq_true rfl, mkT_l (ds := [.int 2, .int 0]) rfl ?_⟩
    refine ⟨Nat.le_of_ble_eq_true rfl, mkT_l (ds := [.tuple [.int 9, .int 5], .tuple [.int 2, .int 0]]) rfl ?_⟩
    refine ⟨_, rfl, 0, _, .d (.int 3), rfl, rfl, at_nat (n := 0) rfl, ?_⟩
    refine ⟨Nat.le_of_ble_eq_true rfl, mkT_l (ds := [.int 9, .int 3]) rfl ?_⟩
    refine ⟨Nat.le_of_ble_eq_true rfl, mkT_l (ds := [.tuple [.int 9, .int 3]]) rfl ?_⟩
    refine ⟨_, rfl, 0, _, .d (.int 3), rfl, rfl, at_nat (n := 0) rfl, ?_⟩
    refine ⟨_, rfl, 2, _, .d (.int 5), rfl, rfl, at_nat (n := 2) rfl, ?_⟩
    refine ⟨Nat.le_of_ble_eq_true rfl, mkT_l (ds := [.int 9, .int 5]) rfl ?_⟩
    refine ⟨_, rfl, 0, _, .d (.int 3), rfl, rfl, at_nat (n := 0) rfl, ?_⟩
    refine ⟨Nat.le_of_ble_eq_true rfl, mkT_l (ds := [.int 9, .int 3]) rfl ?_⟩
    refine ⟨Nat.le_of_ble_eq_true rfl, mkT_l (ds := [.tuple [.int 9, .int 5], .tuple [.int 9, .int 3]]) rfl ?_⟩
    refine ⟨Nat.le_of_ble_eq_true rfl, [.int 5, .tuple [.tuple [.int 9, .int 5], .tuple [.int 2, .int 0]], .tuple [.tuple [.int 9, .int 3]], .none, .int 3, .tuple [.tuple [.int 9, .int 5], .tuple [.int 9, .int 3]], .int 0], rfl, ?_⟩
    refine ⟨_, _, [.bool true, .bool true, .bool false, .bool false, .bool false, .tuple [.tuple [.int 2, .int 0], .tuple [.int 9, .int 5], .tuple [.int 9, .int 3]], .int 0, .tuple [.tuple [.int 4, .int 3], .tuple [.int 2, .int 0]], .int 5, .tuple [.tuple [.int 9, .int 5], .tuple [.int 2, .int 0]], .tuple [.tuple [.int 9, .int 3]], .none, .int 3, .tuple [.tuple [.int 9, .int 5], .tuple [.int 9, .int 3]], .int 0], rfl, rfl, Nat.le_of_ble_eq_true rfl, rfl, ?_⟩
    refine ⟨_, rfl, ?_⟩
    refine ⟨_, rfl, ?_⟩
    refine ⟨Nat.le_of_ble_eq_true rfl, [.none, .int 1, .none, .int 2], rfl, ?_⟩
    refine ⟨_, _, [.bool true, .bool true, .bool false, .bool false, .bool false, .tuple [.tuple [.int 2, .int 0], .tuple [.int 9, .int 5], .tuple [.int 9, .int 3]], .int 0, .tuple [.tuple [.int 4, .int 3], .tuple [.int 2, .int 0]], .int 5, .tuple [.tuple [.int 9, .int 5], .tuple [.int 2, .int 0]], .tuple [.tuple [.int 9, .int 3]], .none, .int 3, .tuple [.tuple [.int 9, .int 5], .tuple [.int 9, .int 3]], .int 0, .none, .int 1, .none, .int 2], rfl, rfl, Nat.le_of_ble_eq_true rfl, rfl, ?_⟩
    exact ⟨.list [.bool true, .bool true, .bool false, .bool false, .bool false, .tuple [.tuple [.int 2, .int 0], .tuple [.int 9, .int 5], .tuple [.int 9, .int 3]], .int 0, .tuple [.tuple [.int 4, .int 3], .tuple [.int 2, .int 0]], .int 5, .tuple [.tuple [.int 9, .int 5], .tuple [.int 2, .int 0]], .tuple [.tuple [.int 9, .int 3]], .none, .int 3, .tuple [.tuple [.int 9, .int 5], .tuple [.int 9, .int 3]], .int 0, .none, .int 1, .none, .int 2], rfl, ⟨by decide +kernel, by decide +kernel, by decide +kernel, by decide +kernel⟩, h _⟩
  · refine ⟨6, rfl, by decide, by decide, ?_⟩
    refine lc_rngE (fun i => .int (((0 + (i : Int)) + 4) % 6)) [.int 4, .int 5, .int 0, .int 1, .int 2, .int 3] (Nat.le_of_ble_eq_true rfl) rfl (fun i M hi hM C' N' hC => iteT ⟨_, rfl, _, rfl, (by decide : (0 : Int) < 6), hC M Mle.refl⟩) fun m0 hm0 => ?_
    refine fun a dx na => c_init (by decide) mu_same fun p m1 A1 => ⟨rfl, ?_⟩
    obtain ⟨dx1, ho1⟩ := A1.ob
    refine ⟨_, rfl, a, dx1, _, rfl, ho1, fl_no _ _ (by decide +kernel) (by decide +kernel), ?_⟩
    refine ⟨_, rfl, 0, _, .d (.int 4), rfl, rfl, at_nat (n := 0) rfl, ?_⟩
    refine c_req A1 (i := 4) (k := 4) (rs' := ([⟨4, 4, true⟩] : List Rq)) (b := true) rfl rfl (fun m2 hm2 A2 => ?_)
    obtain ⟨dx2, ho2⟩ := A2.ob
    refine ⟨_, rfl, a, dx2, _, rfl, ho2, fl_no _ _ (by decide +kernel) (by decide +kernel), ?_⟩
    refine ⟨_, rfl, 1, _, .d (.int 5), rfl, rfl, at_nat (n := 1) rfl, ?_⟩
    refine c_req A2 (i := 5) (k := 4) (rs' := ([⟨4, 4, true⟩, ⟨4, 5, true⟩] : List Rq)) (b := true) rfl rfl (fun m3 hm3 A3 => ?_)
    obtain ⟨dx3, ho3⟩ := A3.ob
    refine ⟨_, rfl, a, dx3, _, rfl, ho3, fl_no _ _ (by decide +kernel) (by decide +kernel), ?_⟩
    refine ⟨_, rfl, 2, _, .d (.int 0), rfl, rfl, at_nat (n := 2) rfl, ?_⟩
    refine c_req A3 (i := 0) (k := 9) (rs' := ([⟨4, 4, true⟩, ⟨4, 5, true⟩, ⟨9, 0, false⟩] : List Rq)) (b := false) rfl rfl (fun m4 hm4 A4 => ?_)
    obtain ⟨dx4, ho4⟩ := A4.ob
    refine ⟨_, rfl, a, dx4, _, rfl, ho4, fl_no _ _ (by decide +kernel) (by decide +kernel), ?_⟩
    refine ⟨_, rfl, 3, _, .d (.int 1), rfl, rfl, at_nat (n := 3) rfl, ?_⟩
    refine c_req A4 (i := 1) (k := 2) (rs' := ([⟨4, 4, true⟩, ⟨4, 5, true⟩, ⟨9, 0, false⟩, ⟨2, 1, false⟩] : List Rq)) (b := false) rfl rfl (fun m5 hm5 A5 => ?_)
    refine ⟨Nat.le_of_ble_eq_true rfl, [.bool true, .bool true, .bool false, .bool false], rfl, ?_⟩
    refine ⟨_, rfl, ?_⟩
    obtain ⟨dx5, ho5⟩ := A5.ob
    refine ⟨_, rfl, a, dx5, _, rfl, ho5, fl_no _ _ (by decide +kernel) (by decide +kernel), ?_⟩
    refine ⟨_, rfl, 0, _, .d (.int 4), rfl, rfl, at_nat (n := 0) rfl, ?_⟩
    refine c_req A5 (i := 4) (k := 9) (rs' := ([⟨4, 4, true⟩, ⟨4, 5, true⟩, ⟨9, 0, false⟩, ⟨2, 1, false⟩, ⟨9, 4, false⟩] : List Rq)) (b := false) rfl rfl (fun m6 hm6 A6 => ?_)
    obtain ⟨dx6, ho6⟩ := A6.ob
    refine ⟨_, rfl, a, dx6, _, rfl, ho6, fl_no _ _ (by decide +kernel) (by decide +kernel), ?_⟩
    refine c_wait A6 (L := [.tuple [.int 2, .int 1], .tuple [.int 9, .int 0], .tuple [.int 9, .int 4]]) (wait_c (sv_c (I := [3, 2, 4]) (L := [(2, 3), (9, 2), (9, 4)]) (by decide) (by decide) rfl) rfl) (fun m7 hm7 A7 => ?_)
    obtain ⟨dx7, ho7⟩ := A7.ob
    refine ⟨_, rfl, a, dx7, _, rfl, ho7, fl_no _ _ (by decide +kernel) (by decide +kernel), ?_⟩
    refine ⟨_, rfl, 1, _, .d (.int 5), rfl, rfl, at_nat (n := 1) rfl, ?_⟩
    refine c_rel A7 (i := 5) (rs' := ([⟨4, 4, true⟩, ⟨9, 0, false⟩, ⟨2, 1, true⟩, ⟨9, 4, false⟩] : List Rq)) (d := .int 1) (rel_c (j := 1) rfl (sv_c (I := [2, 1, 3]) (L := [(2, 2), (9, 1), (9, 3)]) (by decide) (by decide) rfl) rfl) (fun m8 hm8 A8 => ?_)
    obtain ⟨dx8, ho8⟩ := A8.ob
    refine ⟨_, rfl, a, dx8, _, rfl, ho8, fl_no _ _ (by decide +kernel) (by decide +kernel), ?_⟩
    refine c_hold A8 (L := [.tuple [.int 4, .int 4], .tuple [.int 2, .int 1]]) rfl (fun m9 hm9 A9 => ?_)
    obtain ⟨dx9, ho9⟩ := A9.ob
    refine ⟨_, rfl, a, dx9, _, rfl, ho9, fl_no _ _ (by decide +kernel) (by decide +kernel), ?_⟩
    refine ⟨_, rfl, 0, _, .d (.int 4), rfl, rfl, at_nat (n := 0) rfl, ?_⟩
    refine c_rel A9 (i := 4) (rs' := ([⟨9, 0, true⟩, ⟨2, 1, true⟩, ⟨9, 4, false⟩] : List Rq)) (d := .int 0) (rel_c (j := 0) rfl (sv_c (I := [0, 2]) (L := [(9, 0), (9, 2)]) (by decide) (by decide) rfl) rfl) (fun m10 hm10 A10 => ?_)
    refine ⟨Nat.le_of_ble_eq_true rfl, [.bool false, .tuple [.tuple [.int 2, .int 1], .tuple [.int 9, .int 0], .tuple [.int 9, .int 4]], .int 1, .tuple [.tuple [.int 4, .int 4], .tuple [.int 2, .int 1]], .int 0], rfl, ?_⟩
    refine ⟨_, _, [.bool true, .bool true, .bool false, .bool false, .bool false, .tuple [.tuple [.int 2, .int 1], .tuple [.int 9, .int 0], .tuple [.int 9, .int 4]], .int 1, .tuple [.tuple [.int 4, .int 4], .tuple [.int 2, .int 1]], .int 0], rfl, rfl, Nat.le_of_ble_eq_true rfl, rfl, ?_⟩
    refine ⟨_, rfl, ?_⟩
    obtain ⟨dx10, ho10⟩ := A10.ob
    refine ⟨_, rfl, a, dx10, _, rfl, ho10, fl_no _ _ (by decide +kernel) (by decide +kernel), ?_⟩
    refine c_hold A10 (L := [.tuple [.int 9, .int 0], .tuple [.int 2, .int 1]]) rfl (fun m11 hm11 A11 => ?_)
    obtain ⟨dx11, ho11⟩ := A11.ob
    refine ⟨_, rfl, a, dx11, _, rfl, ho11, fl_no _ _ (by decide +kernel) (by decide +kernel), ?_⟩
    refine c_wait A11 (L := [.tuple [.int 9, .int 4]]) (wait_c (sv_c (I := [2]) (L := [(9, 2)]) (by decide) (by decide) rfl) rfl) (fun m12 hm12 A12 => ?_)
    refine ⟨_, rfl, ?_⟩
    refine ⟨_, rfl, 0, _, .d (.int 4), rfl, rfl, at_nat (n := 0) rfl, ?_⟩
    refine c_lrel0 A12 (by rfl) fun m13 hm13 A13 => ?_
    obtain ⟨dx13, ho13⟩ := A13.ob
    refine ⟨_, rfl, a, dx13, _, rfl, ho13, fl_no _ _ (by decide +kernel) (by decide +kernel), ?_⟩
    refine ⟨_, rfl, 3, _, .d (.int 1), rfl, rfl, at_nat (n := 3) rfl, ?_⟩
    refine c_rel A13 (i := 1) (rs' := ([⟨9, 0, true⟩, ⟨9, 4, true⟩] : List Rq)) (d := .int 4) (rel_c (j := 1) rfl (sv_c (I := [1]) (L := [(9, 1)]) (by decide) (by decide) rfl) rfl) (fun m14 hm14 A14 => ?_)
    refine ⟨Nat.le_of_ble_eq_true rfl, [.tuple [.tuple [.int 9, .int 0], .tuple [.int 2, .int 1]], .tuple [.tuple [.int 9, .int 4]], .none, .int 4], rfl, ?_⟩
    refine ⟨_, _, [.bool true, .bool true, .bool false, .bool false, .bool false, .tuple [.tuple [.int 2, .int 1], .tuple [.int 9, .int 0], .tuple [.int 9, .int 4]], .int 1, .tuple [.tuple [.int 4, .int 4], .tuple [.int 2, .int 1]], .int 0, .tuple [.tuple [.int 9, .int 0], .tuple [.int 2, .int 1]], .tuple [.tuple [.int 9, .int 4]], .none, .int 4], rfl, rfl, Nat.le_of_ble_eq_true rfl, rfl, ?_⟩
    refine ⟨_, rfl, ?_⟩
    obtain ⟨dx14, ho14⟩ := A14.ob
    refine ⟨_, rfl, a, dx14, _, rfl, ho14, fl_no _ _ (by decide +kernel) (by decide +kernel), ?_⟩
    refine c_hold A14 (L := [.tuple [.int 9, .int 0], .tuple [.int 9, .int 4]]) rfl (fun m15 hm15 A15 => ?_)
    obtain ⟨dx15, ho15⟩ := A15.ob
    refine ⟨_, rfl, a, dx15, _, rfl, ho15, c_len A15 (v := 0) (L := []) (wait_c (sv_c (I := []) (L := []) (by decide) (by decide) rfl) rfl) rfl fun m16 hm16 A16 => ?_⟩
    obtain ⟨dx16, ho16⟩ := A16.ob
    refine ⟨_, rfl, a, dx16, _, rfl, ho16, fl_no _ _ (by decide +kernel) (by decide +kernel), ?_⟩
    refine ⟨_, rfl, 0, _, .d (.int 4), rfl, rfl, at_nat (n := 0) rfl, ?_⟩
    refine c_rel A16 (i := 4) (rs' := ([⟨9, 0, true⟩] : List Rq)) (d := .none) (rel_c (j := 1) rfl (sv_c (I := []) (L := []) (by decide) (by decide) rfl) rfl) (fun m17 hm17 A17 => ?_)
    obtain ⟨dx17, ho17⟩ := A17.ob
    refine ⟨_, rfl, a, dx17, _, rfl, ho17, c_free A17 (v := 1) rfl fun m18 hm18 A18 => ?_⟩
    obtain ⟨dx18, ho18⟩ := A18.ob
    refine ⟨_, rfl, a, dx18, _, rfl, ho18, fl_no _ _ (by decide +kernel) (by decide +kernel), ?_⟩
    refine ⟨_, rfl, 2, _, .d (.int 0), rfl, rfl, at_nat (n := 2) rfl, ?_⟩
    refine c_rel A18 (i := 0) (rs' := ([] : List Rq)) (d := .none) (rel_c (j := 0) rfl (sv_c (I := []) (L := []) (by decide) (by decide) rfl) rfl) (fun m19 hm19 A19 => ?_)
    obtain ⟨dx19, ho19⟩ := A19.ob
    refine ⟨_, rfl, a, dx19, _, rfl, ho19, c_free A19 (v := 2) rfl fun m20 hm20 A20 => ?_⟩
    refine ⟨Nat.le_of_ble_eq_true rfl, [.tuple [.tuple [.int 9, .int 0], .tuple [.int 9, .int 4]], .int 0, .none, .int 1, .none, .int 2], rfl, ?_⟩
    refine ⟨_, _, [.bool true, .bool true, .bool false, .bool false, .bool false, .tuple [.tuple [.int 2, .int 1], .tuple [.int 9, .int 0], .tuple [.int 9, .int 4]], .int 1, .tuple [.tuple [.int 4, .int 4], .tuple [.int 2, .int 1]], .int 0, .tuple [.tuple [.int 9, .int 0], .tuple [.int 2, .int 1]], .tuple [.tuple [.int 9, .int 4]], .none, .int 4, .tuple [.tuple [.int 9, .int 0], .tuple [.int 9, .int 4]], .int 0, .none, .int 1, .none, .int 2], rfl, rfl, Nat.le_of_ble_eq_true rfl, rfl, ?_⟩
    refine ⟨_, rfl, 3, _, .d (.int 1), rfl, rfl, at_nat (n := 3) rfl, ?_⟩
    refine ⟨Nat.le_of_ble_eq_true rfl, mkT_l (ds := [.int 2, .int 1]) rfl ?_⟩
    refine ⟨_, rfl, 2, _, .d (.int 0), rfl, rfl, at_nat (n := 2) rfl, ?_⟩
    refine ⟨Nat.le_of_ble_eq_true rfl, mkT_l (ds := [.int 9, .int 0]) rfl ?_⟩
    refine ⟨_, rfl, 0, _, .d (.int 4), rfl, rfl, at_nat (n := 0) rfl, ?_⟩
    refine ⟨Nat.le_of_ble_eq_true rfl, mkT_l (ds := [.int 9, .int 4]) rfl ?_⟩
    refine ⟨Nat.le_of_ble_eq_true rfl, mkT_l (ds := [.tuple [.int 2, .int 1], .tuple [.int 9, .int 0], .tuple [.int 9, .int 4]]) rfl ?_⟩
    refine ⟨_, rfl, 3, _, .d (.int 1), rfl, rfl, at_nat (n := 3) rfl, ?_⟩
    refine ⟨_, rfl, 0, _, .d (.int 4), rfl, rfl, at_nat (n := 0) rfl, ?_⟩
    refine ⟨Nat.le_of_ble_eq_true rfl, mkT_l (ds := [.int 4, .int 4]) rfl ?_⟩
    refine ⟨_, rfl, 3, _, .d (.int 1), rfl, rfl, at_nat (n := 3) rfl, ?_⟩
    refine ⟨Nat.le_of_ble_eq_true rfl, mkT_l (ds := [.int 2, .int 1]) rfl ?_⟩
    refine ⟨Nat.le_of_ble_eq_true rfl, mkT_l (ds := [.tuple [.int 4, .int 4], .tuple [.int 2, .int 1]]) rfl ?_⟩
    refine ⟨Nat.le_of_ble_eq_true rfl, [.bool true, .bool true, .bool false, .bool false, .bool false, .tuple [.tuple [.int 2, .int 1], .tuple [.int 9, .int 0], .tuple [.int 9, .int 4]], .int 1, .tuple [.tuple [.int 4, .int 4], .tuple [.int 2, .int 1]]], rfl, ?_⟩
    refine ⟨_, rfl, ?_⟩
    refine ⟨_, rfl, 2, _, .d (.int 0), rfl, rfl, at_nat (n := 2) rfl, ?_⟩
    refine ⟨_, rfl, 2, _, .d (.int 0), rfl, rfl, at_nat (n := 2) rfl, ?_⟩
    refine ⟨Nat.le_of_ble_eq_true rfl, mkT_l (ds := [.int 9, .int 0]) rfl ?_⟩
    refine ⟨_, rfl, 3, _, .d (.int 1), rfl, rfl, at_nat (n := 3) rfl, ?_⟩
    refine ⟨Nat.le_of_ble_eq_true rfl, mkT_l (ds := [.int 2, .int 1]) rfl ?_⟩
    refine ⟨Nat.le_of_ble_eq_true rfl, mkT_l (ds := [.tuple [.int 9, .int 0], .tuple [.int 2, .int 1]]) rfl ?_⟩
    refine ⟨_, rfl, 0, _, .d (.int 4), rfl, rfl, at_nat (n := 0) rfl, ?_⟩
    refine ⟨Nat.le_of_ble_eq_true rfl, mkT_l (ds := [.int 9, .int 4]) rfl ?_⟩
    refine ⟨Nat.le_of_ble_eq_true rfl, mkT_l (ds := [.tuple [.int 9, .int 4]]) rfl ?_⟩
    refine ⟨_, rfl, 0, _, .d (.int 4), rfl, rfl, at_nat (n := 0) rfl, ?_⟩
    refine ⟨_, rfl, 2, _, .d (.int 0), rfl, rfl, at_nat (n := 2) rfl, ?_⟩
    refine ⟨Nat.le_of_ble_eq_true rfl, mkT_l (ds := [.int 9, .int 0]) rfl ?_⟩
    refine ⟨_, rfl, 0, _, .d (.int 4), rfl, rfl, at_nat (n := 0) rfl, ?_⟩
    refine ⟨Nat.le_of_ble_eq_true rfl, mkT_l (ds := [.int 9, .int 4]) rfl ?_⟩
    refine ⟨Nat.le_of_ble_eq_true rfl, mkT_l (ds := [.tuple [.int 9, .int 0], .tuple [.int 9, .int 4]]) rfl ?_⟩
    refine ⟨Nat.le_of_ble_eq_true rfl, [.int 0, .tuple [.tuple [.int 9, .int 0], .tuple [.int 2, .int 1]], .tuple [.tuple [.int 9, .int 4]], .none, .int 4, .tuple [.tuple [.int 9, .int 0], .tuple [.int 9, .int 4]], .int 0], rfl, ?_⟩
    refine ⟨_, _, [.bool true, .bool true, .bool false, .bool false, .bool false, .tuple [.tuple [.int 2, .int 1], .tuple [.int 9, .int 0], .tuple [.int 9, .int 4]], .int 1, .tuple [.tuple [.int 4, .int 4], .tuple [.int 2, .int 1]], .int 0, .tuple [.tuple [.int 9, .int 0], .tuple [.int 2, .int 1]], .tuple [.tuple [.int 9, .int 4]], .none, .int 4, .tuple [.tuple [.int 9, .int 0], .tuple [.int 9, .int 4]], .int 0], rfl, rfl, Nat.le_of_ble_eq_true rfl, rfl, ?_⟩
    refine ⟨_, rfl, ?_⟩
    refine ⟨_, rfl, ?_⟩
    refine ⟨Nat.le_of_ble_eq_true rfl, [.none, .int 1, .none, .int 2], rfl, ?_⟩
    refine ⟨_, _, [.bool true, .bool true, .bool false, .bool false, .bool false, .tuple [.tuple [.int 2, .int 1], .tuple [.int 9, .int 0], .tuple [.int 9, .int 4]], .int 1, .tuple [.tuple [.int 4, .int 4], .tuple [.int 2, .int 1]], .int 0, .tuple [.tuple [.int 9, .int 0], .tuple [.int 2, .int 1]], .tuple [.tuple [.int 9, .int 4]], .none, .int 4, .tuple [.tuple [.int 9, .int 0], .tuple [.int 9, .int 4]], .int 0, .none, .int 1, .none, .int 2], rfl, rfl, Nat.le_of_ble_eq_true rfl, rfl, ?_⟩
    exact ⟨.list [.bool true, .bool true, .bool false, .bool false, .bool false, .tuple [.tuple [.int 2, .int 1], .tuple [.int 9, .int 0], .tuple [.int 9, .int 4]], .int 1, .tuple [.tuple [.int 4, .int 4], .tuple [.int 2, .int 1]], .int 0, .tuple [.tuple [.int 9, .int 0], .tuple [.int 2, .int 1]], .tuple [.tuple [.int 9, .int 4]], .none, .int 4, .tuple [.tuple [.int 9, .int 0], .tuple [.int 9, .int 4]], .int 0, .none, .int 1, .none, .int 2], rfl, ⟨by decide +kernel, by decide +kernel, by decide +kernel, by decide +kernel⟩, h _⟩
  · refine ⟨6, rfl, by decide, by decide, ?_⟩
    refine lc_rngE (fun i => .int (((0 + (i : Int)) + 5) % 6)) [.int 5, .int 0, .int 1, .int 2, .int 3, .int 4] (Nat.le_of_ble_eq_true rfl) rfl (fun i M hi hM C' N' hC => iteT ⟨_, rfl, _, rfl, (by decide : (0 : Int) < 6), hC M Mle.refl⟩) fun m0 hm0 => ?_
    refine fun a dx na => c_init (by decide) mu_same fun p m1 A1 => ⟨rfl, ?_⟩
    obtain ⟨dx1, ho1⟩ := A1.ob
    refine ⟨_, rfl, a, dx1, _, rfl, ho1, fl_no _ _ (by decide +kernel) (by decide +kernel), ?_⟩
    refine ⟨_, rfl, 0, _, .d (.int 5), rfl, rfl, at_nat (n := 0) rfl, ?_⟩
    refine c_req A1 (i := 5) (k := 4) (rs' := ([⟨4, 5, true⟩] : List Rq)) (b := true) rfl rfl (fun m2 hm2 A2 => ?_)
    obtain ⟨dx2, ho2⟩ := A2.ob
    refine ⟨_, rfl, a, dx2, _, rfl, ho2, fl_no _ _ (by decide +kernel) (by decide +kernel), ?_⟩
    refine ⟨_, rfl, 1, _, .d (.int 0), rfl, rfl, at_nat (n := 1) rfl, ?_⟩
    refine c_req A2 (i := 0) (k := 4) (rs' := ([⟨4, 5, true⟩, ⟨4, 0, true⟩] : List Rq)) (b := true) rfl rfl (fun m3 hm3 A3 => ?_)
    obtain ⟨dx3, ho3⟩ := A3.ob
    refine ⟨_, rfl, a, dx3, _, rfl, ho3, fl_no _ _ (by decide +kernel) (by decide +kernel), ?_⟩
    refine ⟨_, rfl, 2, _, .d (.int 1), rfl, rfl, at_nat (n := 2) rfl, ?_⟩
    refine c_req A3 (i := 1) (k := 9) (rs' := ([⟨4, 5, true⟩, ⟨4, 0, true⟩, ⟨9, 1, false⟩] : List Rq)) (b := false) rfl rfl (fun m4 hm4 A4 => ?_)
    obtain ⟨dx4, ho4⟩ := A4.ob
    refine ⟨_, rfl, a, dx4, _, rfl, ho4, fl_no _ _ (by decide +kernel) (by decide +kernel), ?_⟩
    refine ⟨_, rfl, 3, _, .d (.int 2), rfl, rfl, at_nat (n := 3) rfl, ?_⟩
    refine c_req A4 (i := 2) (k := 2) (rs' := ([⟨4, 5, true⟩, ⟨4, 0, true⟩, ⟨9, 1, false⟩, ⟨2, 2, false⟩] : List Rq)) (b := false) rfl rfl (fun m5 hm5 A5 => ?_)
    refine ⟨Nat.le_of_ble_eq_true rfl, [.bool true, .bool true, .bool false, .bool false], rfl, ?_⟩
    refine ⟨_, rfl, ?_⟩
    obtain ⟨dx5, ho5⟩ := A5.ob
    refine ⟨_, rfl, a, dx5, _, rfl, ho5, fl_no _ _ (by decide +kernel) (by decide +kernel), ?_⟩
    refine ⟨_, rfl, 0, _, .d (.int 5), rfl, rfl, at_nat (n := 0) rfl, ?_⟩
    refine c_req A5 (i := 5) (k := 9) (rs' := ([⟨4, 5, true⟩, ⟨4, 0, true⟩, ⟨9, 1, false⟩, ⟨2, 2, false⟩, ⟨9, 5, false⟩] : List Rq)) (b := false) rfl rfl (fun m6 hm6 A6 => ?_)
    obtain ⟨dx6, ho6⟩ := A6.ob
    refine ⟨_, rfl, a, dx6, _, rfl, ho6, fl_no _ _ (by decide +kernel) (by decide +kernel), ?_⟩
    refine c_wait A6 (L := [.tuple [.int 2, .int 2], .tuple [.int 9, .int 1], .tuple [.int 9, .int 5]]) (wait_c (sv_c (I := [3, 2, 4]) (L := [(2, 3), (9, 2), (9, 4)]) (by decide) (by decide) rfl) rfl) (fun m7 hm7 A7 => ?_)
    obtain ⟨dx7, ho7⟩ := A7.ob
    refine ⟨_, rfl, a, dx7, _, rfl, ho7, fl_no _ _ (by decide +kernel) (by decide +kernel), ?_⟩
    refine ⟨_, rfl, 1, _, .d (.int 0), rfl, rfl, at_nat (n := 1) rfl, ?_⟩
    refine c_rel A7 (i := 0) (rs' := ([⟨4, 5, true⟩, ⟨9, 1, false⟩, ⟨2, 2, true⟩, ⟨9, 5, false⟩] : List Rq)) (d := .int 2) (rel_c (j := 1) rfl (sv_c (I := [2, 1, 3]) (L := [(2, 2), (9, 1), (9, 3)]) (by decide) (by decide) rfl) rfl) (fun m8 hm8 A8 => ?_)
    obtain ⟨dx8, ho8⟩ := A8.ob
    refine ⟨_, rfl, a, dx8, _, rfl, ho8, fl_no _ _ (by decide +kernel) (by decide +kernel), ?_⟩
    refine c_hold A8 (L := [.tuple [.int 4, .int 5], .tuple [.int 2, .int 2]]) rfl (fun m9 hm9 A9 => ?_)
    obtain ⟨dx9, ho9⟩ := A9.ob
    refine ⟨_, rfl, a, dx9, _, rfl, ho9, fl_no _ _ (by decide +kernel) (by decide +kernel), ?_⟩
    refine ⟨_, rfl, 0, _, .d (.int 5), rfl, rfl, at_nat (n := 0) rfl, ?_⟩
    refine c_rel A9 (i := 5) (rs' := ([⟨9, 1, true⟩, ⟨2, 2, true⟩, ⟨9, 5, false⟩] : List Rq)) (d := .int 1) (rel_c (j := 0) rfl (sv_c (I := [0, 2]) (L := [(9, 0), (9, 2)]) (by decide) (by decide) rfl) rfl) (fun m10 hm10 A10 => ?_)
    refine ⟨Nat.le_of_ble_eq_true rfl, [.bool false, .tuple [.tuple [.int 2, .int 2], .tuple [.int 9, .int 1], .tuple [.int 9, .int 5]], .int 2, .tuple [.tuple [.int 4, .int 5], .tuple [.int 2, .int 2]], .int 1], rfl, ?_⟩
    refine ⟨_, _, [.bool true, .bool true, .bool false, .bool false, .bool false, .tuple [.tuple [.int 2, .int 2], .tuple [.int 9, .int 1], .tuple [.int 9, .int 5]], .int 2, .tuple [.tuple [.int 4, .int 5], .tuple [.int 2, .int 2]], .int 1], rfl, rfl, Nat.le_of_ble_eq_true rfl, rfl, ?_⟩
    refine ⟨_, rfl, ?_⟩
    obtain ⟨dx10, ho10⟩ := A10.ob
    refine ⟨_, rfl, a, dx10, _, rfl, ho10, fl_no _ _ (by decide +kernel) (by decide +kernel), ?_⟩
    refine c_hold A10 (L := [.tuple [.int 9, .int 1], .tuple [.int 2, .int 2]]) rfl (fun m11 hm11 A11 => ?_)
    obtain ⟨dx11, ho11⟩ := A11.ob
    refine ⟨_, rfl, a, dx11, _, rfl, ho11, fl_no _ _ (by decide +kernel) (by decide +kernel), ?_⟩
    refine c_wait A11 (L := [.tuple [.int 9, .int 5]]) (wait_c (sv_c (I := [2]) (L := [(9, 2)]) (by decide) (by decide) rfl) rfl) (fun m12 hm12 A12 => ?_)
    refine ⟨_, rfl, ?_⟩
    refine ⟨_, rfl, 0, _, .d (.int 5), rfl, rfl, at_nat (n := 0) rfl, ?_⟩
    refine c_lrel0 A12 (by rfl) fun m13 hm13 A13 => ?_
    obtain ⟨dx13, ho13⟩ := A13.ob
    refine ⟨_, rfl, a, dx13, _, rfl, ho13, fl_no _ _ (by decide +kernel) (by decide +kernel), ?_⟩
    refine ⟨_, rfl, 3, _, .d (.int 2), rfl, rfl, at_nat (n := 3) rfl, ?_⟩
    refine c_rel A13 (i := 2) (rs' := ([⟨9, 1, true⟩, ⟨9, 5, true⟩] : List Rq)) (d := .int 5) (rel_c (j := 1) rfl (sv_c (I := [1]) (L := [(9, 1)]) (by decide) (by decide) rfl) rfl) (fun m14 hm14 A14 => ?_)
    refine ⟨Nat.le_of_ble_eq_true rfl, [.tuple [.tuple [.int 9, .int 1], .tuple [.int 2, .int 2]], .tuple [.tuple [.int 9, .int 5]], .none, .int 5], rfl, ?_⟩
    refine ⟨_, _, [.bool true, .bool true, .bool false, .bool false, .bool false, .tuple [.tuple [.int 2, .int 2], .tuple [.int 9, .int 1], .tuple [.int 9, .int 5]], .int 2, .tuple [.tuple [.int 4, .int 5], .tuple [.int 2, .int 2]], .int 1, .tuple [.tuple [.int 9, .int 1], .tuple [.int 2, .int 2]], .tuple [.tuple [.int 9, .int 5]], .none, .int 5], rfl, rfl, Nat.le_of_ble_eq_true rfl, rfl, ?_⟩
    refine ⟨_, rfl, ?_⟩
    obtain ⟨dx14, ho14⟩ := A14.ob
    refine ⟨_, rfl, a, dx14, _, rfl, ho14, fl_no _ _ (by decide +kernel) (by decide +kernel), ?_⟩
    refine c_hold A14 (L := [.tuple [.int 9, .int 1], .tuple [.int 9, .int 5]]) rfl (fun m15 hm15 A15 => ?_)
    obtain ⟨dx15, ho15⟩ := A15.ob
    refine ⟨_, rfl, a, dx15, _, rfl, ho15, c_len A15 (v := 0) (L := []) (wait_c (sv_c (I := []) (L := []) (by decide) (by decide) rfl) rfl) rfl fun m16 hm16 A16 => ?_⟩
    obtain ⟨dx16, ho16⟩ := A16.ob
    refine ⟨_, rfl, a, dx16, _, rfl, ho16, fl_no _ _ (by decide +kernel) (by decide +kernel), ?_⟩
    refine ⟨_, rfl, 0, _, .d (.int 5), rfl, rfl, at_nat (n := 0) rfl, ?_⟩
    refine c_rel A16 (i := 5) (rs' := ([⟨9, 1, true⟩] : List Rq)) (d := .none) (rel_c (j := 1) rfl (sv_c (I := []) (L := []) (by decide) (by decide) rfl) rfl) (fun m17 hm17 A17 => ?_)
    obtain ⟨dx17, ho17⟩ := A17.ob
    refine ⟨_, rfl, a, dx17, _, rfl, ho17, c_free A17 (v := 1) rfl fun m18 hm18 A18 => ?_⟩
    obtain ⟨dx18, ho18⟩ := A18.ob
    refine ⟨_, rfl, a, dx18, _, rfl, ho18, fl_no _ _ (by decide +kernel) (by decide +kernel), ?_⟩
    refine ⟨_, rfl, 2, _, .d (.int 1), rfl, rfl, at_nat (n := 2) rfl, ?_⟩
    refine c_rel A18 (i := 1) (rs' := ([] : List Rq)) (d := .none) (rel_c (j := 0) rfl (sv_c (I := []) (L := []) (by decide) (by decide) rfl) rfl) (fun m19 hm19 A19 => ?_)
    obtain ⟨dx19, ho19⟩ := A19.ob
    refine ⟨_, rfl, a, dx19, _, rfl, ho19, c_free A19 (v := 2) rfl fun m20 hm20 A20 => ?_⟩
    refine ⟨Nat.le_of_ble_eq_true rfl, [.tuple [.tuple [.int 9, .int 1], .tuple [.int 9, .int 5]], .int 0, .none, .int 1, .none, .int 2], rfl, ?_⟩
    refine ⟨_, _, [.bool true, .bool true, .bool false, .bool false, .bool false, .tuple [.tuple [.int 2, .int 2], .tuple [.int 9, .int 1], .tuple [.int 9, .int 5]], .int 2, .tuple [.tuple [.int 4, .int 5], .tuple [.int 2, .int 2]], .int 1, .tuple [.tuple [.int 9, .int 1], .tuple [.int 2, .int 2]], .tuple [.tuple [.int 9, .int 5]], .none, .int 5, .tuple [.tuple [.int 9, .int 1], .tuple [.int 9, .int 5]], .int 0, .none, .int 1, .none, .int 2], rfl, rfl, Nat.le_of_ble_eq_true rfl, rfl, ?_⟩
    refine ⟨_, rfl, 3, _, .d (.int 2), rfl, rfl, at_nat (n := 3) rfl, ?_⟩
    refine ⟨Nat.le_of_ble_eq_true rfl, mkT_l (ds := [.int 2, .int 2]) rfl ?_⟩
    refine ⟨_, rfl, 2, _, .d (.int 1), rfl, rfl, at_nat (n := 2) rfl, ?_⟩
    refine ⟨Nat.le_of_ble_eq_true rfl, mkT_l (ds := [.int 9, .int 1]) rfl ?_⟩
    refine ⟨_, rfl, 0, _, .d (.int 5), rfl, rfl, at_nat (n := 0) rfl, ?_⟩
    refine ⟨Nat.le_of_ble_eq_true rfl, mkT_l (ds := [.int 9, .int 5]) rfl ?_⟩
    refine ⟨Nat.le_of_ble_eq_true rfl, mkT_l (ds := [.tuple [.int 2, .int 2], .tuple [.int 9, .int 1], .tuple [.int 9, .int 5]]) rfl ?_⟩
    refine ⟨_, rfl, 3, _, .d (.int 2), rfl, rfl, at_nat (n := 3) rfl, ?_⟩
    refine ⟨_, rfl, 0, _, .d (.int 5), rfl, rfl, at_nat (n := 0) rfl, ?_⟩
    refine ⟨Nat.le_of_ble_eq_true rfl, mkT_l (ds := [.int 4, .int 5]) rfl ?_⟩
    refine ⟨_, rfl, 3, _, .d (.int 2), rfl, rfl, at_nat (n := 3) rfl, ?_⟩
    refine ⟨Nat.le_of_ble_eq_true rfl, mkT_l (ds := [.int 2, .int 2]) rfl ?_⟩
    refine ⟨Nat.le_of_ble_eq_true rfl, mkT_l (ds := [.tuple [.int 4, .int 5], .tuple [.int 2, .int 2]]) rfl ?_⟩
    refine ⟨Nat.le_of_ble_eq_true rfl, [.bool true, .bool true, .bool false, .bool false, .bool false, .tuple [.tuple [.int 2, .int 2], .tuple [.int 9, .int 1], .tuple [.int 9, .int 5]], .int 2, .tuple [.tuple [.int 4, .int 5], .tuple [.int 2, .int 2]]], rfl, ?_⟩
    refine ⟨_, rfl, ?_⟩
    refine ⟨_, rfl, 2, _, .d (.int 1), rfl, rfl, at_nat (n := 2) rfl, ?_⟩
    refine ⟨_, rfl, 2, _, .d (.int 1), rfl, rfl, at_nat (n := 2) rfl, ?_⟩
    refine ⟨Nat.le_of_ble_eq_true rfl, mkT_l (ds := [.int 9, .int 1]) rfl ?_⟩
    refine ⟨_, rfl, 3, _, .d (.int 2), rfl, rfl, at_nat (n := 3) rfl, ?_⟩
    refine ⟨Nat.le_of_ble_eq_true rfl, mkT_l (ds := [.int 2, .int 2]) rfl ?_⟩
    refine ⟨Nat.le_of_ble_eq_true rfl, mkT_l (ds := [.tuple [.int 9, .int 1], .tuple [.int 2, .int 2]]) rfl ?_⟩
    refine ⟨_, rfl, 0, _, .d (.int 5), rfl, rfl, at_nat (n := 0) rfl, ?_⟩
    refine ⟨Nat.le_of_ble_eq_true rfl, mkT_l (ds := [.int 9, .int 5]) rfl ?_⟩
    refine ⟨Nat.le_of_ble_eq_true rfl, mkT_l (ds := [.tuple [.int 9, .int 5]]) rfl ?_⟩
    refine ⟨_, rfl, 0, _, .d (.int 5), rfl, rfl, at_nat (n := 0) rfl, ?_⟩
    refine ⟨_, rfl, 2, _, .d (.int 1), rfl, rfl, at_nat (n := 2) rfl, ?_⟩
    refine ⟨Nat.le_of_ble_eq_true rfl, mkT_l (ds := [.int 9, .int 1]) rfl ?_⟩
    refine ⟨_, rfl, 0, _, .d (.int 5), rfl, rfl, at_nat (n := 0) rfl, ?_⟩
    refine ⟨Nat.le_of_ble_eq_true rfl, mkT_l (ds := [.int 9, .int 5]) rfl ?_⟩
    refine ⟨Nat.le_of_ble_eq_true rfl, mkT_l (ds := [.tuple [.int 9, .int 1], .tuple [.int 9, .int 5]]) rfl ?_⟩
    refine ⟨Nat.le_of_ble_eq_true rfl, [.int 1, .tuple [.tuple [.int 9, .int 1], .tuple [.int 2, .int 2]], .tuple [.tuple [.int 9, .int 5]], .none, .int 5, .tuple [.tuple [.int 9, .int 1], .tuple [.int 9, .int 5]], .int 0], rfl, ?_⟩
    refine ⟨_, _, [.bool true, .bool true, .bool false, .bool false, .bool false, .tuple [.tuple [.int 2, .int 2], .tuple [.int 9, .int 1], .tuple [.int 9, .int 5]], .int 2, .tuple [.tuple [.int 4, .int 5], .tuple [.int 2, .int 2]], .int 1, .tuple [.tuple [.int 9, .int 1], .tuple [.int 2, .int 2]], .tuple [.tuple [.int 9, .int 5]], .none, .int 5, .tuple [.tuple [.int 9, .int 1], .tuple [.int 9, .int 5]], .int 0], rfl, rfl, Nat.le_of_ble_eq_true rfl, rfl, ?_⟩
    refine ⟨_, rfl, ?_⟩
    refine ⟨_, rfl, ?_⟩
    refine ⟨Nat.le_of_ble_eq_true rfl, [.none, .int 1, .none, .int 2], rfl, ?_⟩
    refine ⟨_, _, [.bool true, .bool true, .bool false, .bool false, .bool false, .tuple [.tuple [.int 2, .int 2], .tuple [.int 9, .int 1], .tuple [.int 9, .int 5]], .int 2, .tuple [.tuple [.int 4, .int 5], .tuple [.int 2, .int 2]], .int 1, .tuple [.tuple [.int 9, .int 1], .tuple [.int 2, .int 2]], .tuple [.tuple [.int 9, .int 5]], .none, .int 5, .tuple [.tuple [.int 9, .int 1], .tuple [.int 9, .int 5]], .int 0, .none, .int 1, .none, .int 2], rfl, rfl, Nat.le_of_ble_eq_true rfl, rfl, ?_⟩
    exact ⟨.list [.bool true, .bool true, .bool false, .bool false, .bool false, .tuple [.tuple [.int 2, .int 2], .tuple [.int 9, .int 1], .tuple [.int 9, .int 5]], .int 2, .tuple [.tuple [.int 4, .int 5], .tuple [.int 2, .int 2]], .int 1, .tuple [.tuple [.int 9, .int 1], .tuple [.int 2, .int 2]], .tuple [.tuple [.int 9, .int 5]], .none, .int 5, .tuple [.tuple [.int 9, .int 1], .tuple [.int 9, .int 5]], .int 0, .none, .int 1, .none, .int 2], rfl, ⟨by decide +kernel, by decide +kernel, by decide +kernel, by decide +kernel⟩, h _⟩
abbrev s_law_third_case : Stmt := top 24
abbrev N_law_third_case : List Str := ["_law_shift", "_law_p", "_law_line", "_law_found", "_law_expected", "_law_place"]
theorem sc_law_third_case : FnScope N_law_third_case ["_law_shift"] (defScope s_law_third_case) := ⟨rfl, rfl, rfl, by decide +kernel, rfl, by decide +kernel, by decide +kernel⟩
theorem ok_law_third_case {f : Addr} {fd : FuncData} (F : Fun K "_law_third_case" "_law_third_case" s_law_third_case f fd) (T : Txt K mg) {C0 XH fN f_request f_release f_holders f_waiting f_repr f_same : Addr} {fdN fd_request fd_release fd_holders fd_waiting fd_repr fd_same : FuncData} (N_Line : NF P w K mg base "Line" C0 3 fN fdN ["self", "units"] (d_init C0)) (M0_request : MF P w K mg base C0 "request" 8 f_request fd_request ["self", "process", "rank"] (d_request C0)) (M0_release : MF P w K mg base C0 "release" 6 f_release fd_release ["self", "process"] (d_release C0 XH sv0)) (M0_holders : MF P w K mg base C0 "holders" 3 f_holders fd_holders ["self"] (d_holders C0)) (M0_waiting : MF P w K mg base C0 "waiting" 5 f_waiting fd_waiting ["self"] (d_waiting C0 sv0)) (R0_repr : MF P w K mg base C0 "__repr__" 8 f_repr fd_repr ["self"] (d_repr C0 sv0 "Line(")) (G_law_same : GF P w K mg base "_law_same" 1 f_same fd_same ["_law_actual", "_law_expected"] d_law_same) : FnD P w K mg base 10 f fd ["_law_shift"] (d_case) := by
  refine Dl.Fun.dok F sc_law_third_case _ (fun cdv A outer s H E B hp =>
      (dss_cons (ds_setLc (i := 1) (fin := finD) finD_ok rfl sc_law_third_case.nd rfl rfl (sw_true rfl rfl rfl (by decide +kernel)) (di_range1 rfl T.b_range (da_cons (de_int) da_nil)) (blkOk_by (own := [("_law_place", 5)]) (N := N_law_third_case) (sc := defScope s_law_third_case) (by decide +kernel)) (fun _ _ _ _ _ => pg_name (i := 5) sc_law_third_case.nd rfl (by first | exact Or.inl rfl | exact Or.inr rfl)) (dgw_name (i := 5) (by decide)) (fun _ _ _ _ _ => dts_nil) (fun _ _ _ _ _ => de_op opd_mod (de_op opd_add (de_var (pv 5)) (de_var (pv 0))) (de_int)))
      (dss_cons (ds_set (i := 2) sc_law_third_case.nd rfl (by first | exact Or.inl rfl | exact Or.inr rfl) (de_nf N_Line B.hr B.gd B.tk rfl (da_cons (de_int) da_nil)))
      (dss_cons (ds_set (i := 3) sc_law_third_case.nd rfl (by first | exact Or.inl rfl | exact Or.inr rfl) (de_lst (da_cons (de_mf (de_var (pv 2)) M0_request B.hr B.gd B.tk (da_cons (de_ix (de_var (pv 1)) (de_int) (by intro _ _; rfl)) (da_cons (de_int) da_nil))) (da_cons (de_mf (de_var (pv 2)) M0_request B.hr B.gd B.tk (da_cons (de_ix (de_var (pv 1)) (de_int) (by intro _ _; rfl)) (da_cons (de_int) da_nil))) (da_cons (de_mf (de_var (pv 2)) M0_request B.hr B.gd B.tk (da_cons (de_ix (de_var (pv 1)) (de_int) (by intro _ _; rfl)) (da_cons (de_int) da_nil))) (da_cons (de_mf (de_var (pv 2)) M0_request B.hr B.gd B.tk (da_cons (de_ix (de_var (pv 1)) (de_int) (by intro _ _; rfl)) (da_cons (de_int) da_nil))) (da_cons (de_mf0 (de_var (pv 2)) M0_holders B.hr B.gd B.tk) da_nil)))))))
      (dss_cons (ds_set (i := 3) sc_law_third_case.nd rfl (by first | exact Or.inl rfl | exact Or.inr rfl) (de_op opd_add (de_var (pv 3)) (de_lst (da_cons (de_mf (de_var (pv 2)) M0_release B.hr B.gd B.tk (da_cons (de_ix (de_var (pv 1)) (de_int) (by intro _ _; rfl)) da_nil)) (da_cons (de_mf0 (de_var (pv 2)) M0_holders B.hr B.gd B.tk) (da_cons (de_mf0 (de_var (pv 2)) M0_waiting B.hr B.gd B.tk) (da_cons (de_mf (de_var (pv 2)) M0_release B.hr B.gd B.tk (da_cons (de_ix (de_var (pv 1)) (de_int) (by intro _ _; rfl)) da_nil)) (da_cons (de_mf0 (de_var (pv 2)) M0_holders B.hr B.gd B.tk) da_nil))))))))
      (dss_cons (ds_set (i := 3) sc_law_third_case.nd rfl (by first | exact Or.inl rfl | exact Or.inr rfl) (de_op opd_add (de_var (pv 3)) (de_lst (da_cons (de_mf (de_var (pv 2)) M0_release B.hr B.gd B.tk (da_cons (de_ix (de_var (pv 1)) (de_int) (by intro _ _; rfl)) da_nil)) (da_cons (de_mf0 (de_var (pv 2)) M0_holders B.hr B.gd B.tk) (da_cons (de_cb (cd_reprO R0_repr B.hr B.gd) rfl T.b_repr boot_repr (da_cons (de_var (pv 2)) da_nil)) da_nil))))))
      (dss_cons (ds_set (i := 4) sc_law_third_case.nd rfl (by first | exact Or.inl rfl | exact Or.inr rfl) (de_lst (da_cons (de_bl) (da_cons (de_bl) (da_cons (de_bl) (da_cons (de_bl) (da_cons (de_tup (da_cons (de_tup (da_cons (de_int) (da_cons (de_ix (de_var (pv 1)) (de_int) (by intro _ _; rfl)) da_nil))) (da_cons (de_tup (da_cons (de_int) (da_cons (de_ix (de_var (pv 1)) (de_int) (by intro _ _; rfl)) da_nil))) da_nil))) (da_cons (de_ix (de_var (pv 1)) (de_int) (by intro _ _; rfl)) (da_cons (de_tup (da_cons (de_tup (da_cons (de_int) (da_cons (de_ix (de_var (pv 1)) (de_int) (by intro _ _; rfl)) da_nil))) (da_cons (de_tup (da_cons (de_int) (da_cons (de_ix (de_var (pv 1)) (de_int) (by intro _ _; rfl)) da_nil))) da_nil))) (da_cons (de_tup (da_cons (de_tup (da_cons (de_int) (da_cons (de_ix (de_var (pv 1)) (de_int) (by intro _ _; rfl)) da_nil))) da_nil)) (da_cons (de_ix (de_var (pv 1)) (de_int) (by intro _ _; rfl)) da_nil)))))))))))
      (dss_one (ds_ret (de_gf G_law_same B.hr B.gd B.tk rfl (da_cons (de_var (pv 3)) (da_cons (de_op opd_add (de_var (pv 4)) (de_lst (da_cons (de_tup (da_cons (de_tup (da_cons (de_int) (da_cons (de_ix (de_var (pv 1)) (de_int) (by intro _ _; rfl)) da_nil))) (da_cons (de_tup (da_cons (de_int) (da_cons (de_ix (de_var (pv 1)) (de_int) (by intro _ _; rfl)) da_nil))) da_nil))) (da_cons (de_non) (da_cons (de_tup (da_cons (de_tup (da_cons (de_int) (da_cons (de_ix (de_var (pv 1)) (de_int) (by intro _ _; rfl)) da_nil))) da_nil)) (da_cons (de_str) da_nil)))))) da_nil)))))))))))) (fun ys m F P h => ?_)
  obtain ⟨s, rfl, s0, s5, h⟩ := h
  refine ⟨rfl, ?_⟩
  have hs : s = 0 ∨ s = 1 ∨ s = 2 ∨ s = 3 ∨ s = 4 ∨ s = 5 := by omega
  clear s0 s5
  rcases hs with rfl | rfl | rfl | rfl | rfl | rfl
  · refine ⟨6, rfl, by decide, by decide, ?_⟩
    refine lc_rngE (fun i => .int (((0 + (i : Int)) + 0) % 6)) [.int 0, .int 1, .int 2, .int 3, .int 4, .int 5] (Nat.le_of_ble_eq_true rfl) rfl (fun i M hi hM C' N' hC => iteT ⟨_, rfl, _, rfl, (by decide : (0 : Int) < 6), hC M Mle.refl⟩) fun m0 hm0 => ?_
    refine fun a dx na => c_init (by decide) mu_same fun p m1 A1 => ⟨rfl, ?_⟩
    obtain ⟨dx1, ho1⟩ := A1.ob
    refine ⟨_, rfl, a, dx1, _, rfl, ho1, fl_no _ _ (by decide +kernel) (by decide +kernel), ?_⟩
    refine ⟨_, rfl, 5, _, .d (.int 5), rfl, rfl, at_nat (n := 5) rfl, ?_⟩
    refine c_req A1 (i := 5) (k := 1) (rs' := ([⟨1, 5, true⟩] : List Rq)) (b := true) rfl rfl (fun m2 hm2 A2 => ?_)
    obtain ⟨dx2, ho2⟩ := A2.ob
    refine ⟨_, rfl, a, dx2, _, rfl, ho2, fl_no _ _ (by decide +kernel) (by decide +kernel), ?_⟩
    refine ⟨_, rfl, 5, _, .d (.int 5), rfl, rfl, at_nat (n := 5) rfl, ?_⟩
    refine c_req A2 (i := 5) (k := 0) (rs' := ([⟨1, 5, true⟩, ⟨0, 5, true⟩] : List Rq)) (b := true) rfl rfl (fun m3 hm3 A3 => ?_)
    obtain ⟨dx3, ho3⟩ := A3.ob
    refine ⟨_, rfl, a, dx3, _, rfl, ho3, fl_no _ _ (by decide +kernel) (by decide +kernel), ?_⟩
    refine ⟨_, rfl, 4, _, .d (.int 4), rfl, rfl, at_nat (n := 4) rfl, ?_⟩
    refine c_req A3 (i := 4) (k := 3) (rs' := ([⟨1, 5, true⟩, ⟨0, 5, true⟩, ⟨3, 4, false⟩] : List Rq)) (b := false) rfl rfl (fun m4 hm4 A4 => ?_)
    obtain ⟨dx4, ho4⟩ := A4.ob
    refine ⟨_, rfl, a, dx4, _, rfl, ho4, fl_no _ _ (by decide +kernel) (by decide +kernel), ?_⟩
    refine ⟨_, rfl, 4, _, .d (.int 4), rfl, rfl, at_nat (n := 4) rfl, ?_⟩
    refine c_req A4 (i := 4) (k := 2) (rs' := ([⟨1, 5, true⟩, ⟨0, 5, true⟩, ⟨3, 4, false⟩, ⟨2, 4, false⟩] : List Rq)) (b := false) rfl rfl (fun m5 hm5 A5 => ?_)
    obtain ⟨dx5, ho5⟩ := A5.ob
    refine ⟨_, rfl, a, dx5, _, rfl, ho5, fl_no _ _ (by decide +kernel) (by decide +kernel), ?_⟩
    refine c_hold A5 (L := [.tuple [.int 1, .int 5], .tuple [.int 0, .int 5]]) rfl (fun m6 hm6 A6 => ?_)
    refine ⟨Nat.le_of_ble_eq_true rfl, [.bool true, .bool true, .bool false, .bool false, .tuple [.tuple [.int 1, .int 5], .tuple [.int 0, .int 5]]], rfl, ?_⟩
    refine ⟨_, rfl, ?_⟩
    obtain ⟨dx6, ho6⟩ := A6.ob
    refine ⟨_, rfl, a, dx6, _, rfl, ho6, fl_no _ _ (by decide +kernel) (by decide +kernel), ?_⟩
    refine ⟨_, rfl, 5, _, .d (.int 5), rfl, rfl, at_nat (n := 5) rfl, ?_⟩
    refine c_rel A6 (i := 5) (rs' := ([⟨1, 5, true⟩, ⟨3, 4, true⟩, ⟨2, 4, false⟩] : List Rq)) (d := .int 4) (by rfl) (fun m7 hm7 A7 => ?_)
    obtain ⟨dx7, ho7⟩ := A7.ob
    refine ⟨_, rfl, a, dx7, _, rfl, ho7, fl_no _ _ (by decide +kernel) (by decide +kernel), ?_⟩
    refine c_hold A7 (L := [.tuple [.int 1, .int 5], .tuple [.int 3, .int 4]]) rfl (fun m8 hm8 A8 => ?_)
    obtain ⟨dx8, ho8⟩ := A8.ob
    refine ⟨_, rfl, a, dx8, _, rfl, ho8, fl_no _ _ (by decide +kernel) (by decide +kernel), ?_⟩
    refine c_wait A8 (L := [.tuple [.int 2, .int 4]]) (by rfl) (fun m9 hm9 A9 => ?_)
    obtain ⟨dx9, ho9⟩ := A9.ob
    refine ⟨_, rfl, a, dx9, _, rfl, ho9, fl_no _ _ (by decide +kernel) (by decide +kernel), ?_⟩
    refine ⟨_, rfl, 5, _, .d (.int 5), rfl, rfl, at_nat (n := 5) rfl, ?_⟩
    refine c_rel A9 (i := 5) (rs' := ([⟨3, 4, true⟩, ⟨2, 4, true⟩] : List Rq)) (d := .int 4) (by rfl) (fun m10 hm10 A10 => ?_)
    obtain ⟨dx10, ho10⟩ := A10.ob
    refine ⟨_, rfl, a, dx10, _, rfl, ho10, fl_no _ _ (by decide +kernel) (by decide +kernel), ?_⟩
    refine c_hold A10 (L := [.tuple [.int 3, .int 4], .tuple [.int 2, .int 4]]) rfl (fun m11 hm11 A11 => ?_)
    refine ⟨Nat.le_of_ble_eq_true rfl, [.int 4, .tuple [.tuple [.int 1, .int 5], .tuple [.int 3, .int 4]], .tuple [.tuple [.int 2, .int 4]], .int 4, .tuple [.tuple [.int 3, .int 4], .tuple [.int 2, .int 4]]], rfl, ?_⟩
    refine ⟨_, _, [.bool true, .bool true, .bool false, .bool false, .tuple [.tuple [.int 1, .int 5], .tuple [.int 0, .int 5]], .int 4, .tuple [.tuple [.int 1, .int 5], .tuple [.int 3, .int 4]], .tuple [.tuple [.int 2, .int 4]], .int 4, .tuple [.tuple [.int 3, .int 4], .tuple [.int 2, .int 4]]], rfl, rfl, Nat.le_of_ble_eq_true rfl, rfl, ?_⟩
    refine ⟨_, rfl, ?_⟩
    obtain ⟨dx11, ho11⟩ := A11.ob
    refine ⟨_, rfl, a, dx11, _, rfl, ho11, fl_no _ _ (by decide +kernel) (by decide +kernel), ?_⟩
    refine ⟨_, rfl, 4, _, .d (.int 4), rfl, rfl, at_nat (n := 4) rfl, ?_⟩
    refine c_rel A11 (i := 4) (rs' := ([⟨3, 4, true⟩] : List Rq)) (d := .none) (by rfl) (fun m12 hm12 A12 => ?_)
    obtain ⟨dx12, ho12⟩ := A12.ob
    refine ⟨_, rfl, a, dx12, _, rfl, ho12, fl_no _ _ (by decide +kernel) (by decide +kernel), ?_⟩
    refine c_hold A12 (L := [.tuple [.int 3, .int 4]]) rfl (fun m13 hm13 A13 => ?_)
    obtain ⟨dx13, ho13⟩ := A13.ob
    refine ⟨_, rfl, a, dx13, _, rfl, ho13, c_rep A13 (t := "Line(2 units, 0 waiting)") (L := []) (by rfl) (by decide +kernel) (by decide +kernel) fun m14 hm14 A14 => ⟨_, rfl, ?_⟩⟩
    refine ⟨Nat.le_of_ble_eq_true rfl, [.none, .tuple [.tuple [.int 3, .int 4]], .str "Line(2 units, 0 waiting)"], rfl, ?_⟩
    refine ⟨_, _, [.bool true, .bool true, .bool false, .bool false, .tuple [.tuple [.int 1, .int 5], .tuple [.int 0, .int 5]], .int 4, .tuple [.tuple [.int 1, .int 5], .tuple [.int 3, .int 4]], .tuple [.tuple [.int 2, .int 4]], .int 4, .tuple [.tuple [.int 3, .int 4], .tuple [.int 2, .int 4]], .none, .tuple [.tuple [.int 3, .int 4]], .str "Line(2 units, 0 waiting)"], rfl, rfl, Nat.le_of_ble_eq_true rfl, rfl, ?_⟩
    refine ⟨_, rfl, 5, _, .d (.int 5), rfl, rfl, at_nat (n := 5) rfl, ?_⟩
    refine ⟨Nat.le_of_ble_eq_true rfl, mkT_l (ds := [.int 1, .int 5]) rfl ?_⟩
    refine ⟨_, rfl, 5, _, .d (.int 5), rfl, rfl, at_nat (n := 5) rfl, ?_⟩
    refine ⟨Nat.le_of_ble_eq_true rfl, mkT_l (ds := [.int 0, .int 5]) rfl ?_⟩
    refine ⟨Nat.le_of_ble_eq_true rfl, mkT_l (ds := [.tuple [.int 1, .int 5], .tuple [.int 0, .int 5]]) rfl ?_⟩
    refine ⟨_, rfl, 4, _, .d (.int 4), rfl, rfl, at_nat (n := 4) rfl, ?_⟩
    refine ⟨_, rfl, 5, _, .d (.int 5), rfl, rfl, at_nat (n := 5) rfl, ?_⟩
    refine ⟨Nat.le_of_ble_eq_true rfl, mkT_l (ds := [.int 1, .int 5]) rfl ?_⟩
    refine ⟨_, rfl, 4, _, .d (.int 4), rfl, rfl, at_nat (n := 4) rfl, ?_⟩
    refine ⟨Nat.le_of_ble_eq_true rfl, mkT_l (ds := [.int 3, .int 4]) rfl ?_⟩
    refine ⟨Nat.le_of_ble_eq_true rfl, mkT_l (ds := [.tuple [.int 1, .int 5], .tuple [.int 3, .int 4]]) rfl ?_⟩
    refine ⟨_, rfl, 4, _, .d (.int 4), rfl, rfl, at_nat (n := 4) rfl, ?_⟩
    refine ⟨Nat.le_of_ble_eq_true rfl, mkT_l (ds := [.int 2, .int 4]) rfl ?_⟩
    refine ⟨Nat.le_of_ble_eq_true rfl, mkT_l (ds := [.tuple [.int 2, .int 4]]) rfl ?_⟩
    refine ⟨_, rfl, 4, _, .d (.int 4), rfl, rfl, at_nat (n := 4) rfl, ?_⟩
    refine ⟨Nat.le_of_ble_eq_true rfl, [.bool true, .bool true, .bool false, .bool false, .tuple [.tuple [.int 1, .int 5], .tuple [.int 0, .int 5]], .int 4, .tuple [.tuple [.int 1, .int 5], .tuple [.int 3, .int 4]], .tuple [.tuple [.int 2, .int 4]], .int 4], rfl, ?_⟩
    refine ⟨_, rfl, ?_⟩
    refine ⟨_, rfl, ?_⟩
    refine ⟨_, rfl, 4, _, .d (.int 4), rfl, rfl, at_nat (n := 4) rfl, ?_⟩
    refine ⟨Nat.le_of_ble_eq_true rfl, mkT_l (ds := [.int 3, .int 4]) rfl ?_⟩
    refine ⟨_, rfl, 4, _, .d (.int 4), rfl, rfl, at_nat (n := 4) rfl, ?_⟩
    refine ⟨Nat.le_of_ble_eq_true rfl, mkT_l (ds := [.int 2, .int 4]) rfl ?_⟩
    refine ⟨Nat.le_of_ble_eq_true rfl, mkT_l (ds := [.tuple [.int 3, .int 4], .tuple [.int 2, .int 4]]) rfl ?_⟩
    refine ⟨_, rfl, 4, _, .d (.int 4), rfl, rfl, at_nat (n := 4) rfl, ?_⟩
    refine ⟨Nat.le_of_ble_eq_true rfl, mkT_l (ds := [.int 3, .int 4]) rfl ?_⟩
    refine ⟨Nat.le_of_ble_eq_true rfl, mkT_l (ds := [.tuple [.int 3, .int 4]]) rfl ?_⟩
    refine ⟨Nat.le_of_ble_eq_true rfl, [.tuple [.tuple [.int 3, .int 4], .tuple [.int 2, .int 4]], .none, .tuple [.tuple [.int 3, .int 4]], .str "Line(2 units, 0 waiting)"], rfl, ?_⟩
    refine ⟨_, _, [.bool true, .bool true, .bool false, .bool false, .tuple [.tuple [.int 1, .int 5], .tuple [.int 0, .int 5]], .int 4, .tuple [.tuple [.int 1, .int 5], .tuple [.int 3, .int 4]], .tuple [.tuple [.int 2, .int 4]], .int 4, .tuple [.tuple [.int 3, .int 4], .tuple [.int 2, .int 4]], .none, .tuple [.tuple [.int 3, .int 4]], .str "Line(2 units, 0 waiting)"], rfl, rfl, Nat.le_of_ble_eq_true rfl, rfl, ?_⟩
    exact ⟨.list [.bool true, .bool true, .bool false, .bool false, .tuple [.tuple [.int 1, .int 5], .tuple [.int 0, .int 5]], .int 4, .tuple [.tuple [.int 1, .int 5], .tuple [.int 3, .int 4]], .tuple [.tuple [.int 2, .int 4]], .int 4, .tuple [.tuple [.int 3, .int 4], .tuple [.int 2, .int 4]], .none, .tuple [.tuple [.int 3, .int 4]], .str "Line(2 units, 0 waiting)"], rfl, ⟨by decide +kernel, by decide +kernel, by decide +kernel, by decide +kernel⟩, h _⟩
  · refine ⟨6, rfl, by decide, by decide, ?_⟩
    refine lc_rngE (fun i => .int (((0 + (i : Int)) + 1) % 6)) [.int 1, .int 2, .int 3, .int 4, .int 5, .int 0] (Nat.le_of_ble_eq_true rfl) rfl (fun i M hi hM C' N' hC => iteT ⟨_, rfl, _, rfl, (by decide : (0 : Int) < 6), hC M Mle.refl⟩) fun m0 hm0 => ?_
    refine fun a dx na => c_init (by decide) mu_same fun p m1 A1 => ⟨rfl, ?_⟩
    obtain ⟨dx1, ho1⟩ := A1.ob
    refine ⟨_, rfl, a, dx1, _, rfl, ho1, fl_no _ _ (by decide +kernel) (by decide +kernel), ?_⟩
    refine ⟨_, rfl, 5, _, .d (.int 0), rfl, rfl, at_nat (n := 5) rfl, ?_⟩
    refine c_req A1 (i := 0) (k := 1) (rs' := ([⟨1, 0, true⟩] : List Rq)) (b := true) rfl rfl (fun m2 hm2 A2 => ?_)
    obtain ⟨dx2, ho2⟩ := A2.ob
    refine ⟨_, rfl, a, dx2, _, rfl, ho2, fl_no _ _ (by decide +kernel) (by decide +kernel), ?_⟩
    refine ⟨_, rfl, 5, _, .d (.int 0), rfl, rfl, at_nat (n := 5) rfl, ?_⟩
    refine c_req A2 (i := 0) (k := 0) (rs' := ([⟨1, 0, true⟩, ⟨0, 0, true⟩] : List Rq)) (b := true) rfl rfl (fun m3 hm3 A3 => ?_)
    obtain ⟨dx3, ho3⟩ := A3.ob
    refine ⟨_, rfl, a, dx3, _, rfl, ho3, fl_no _ _ (by decide +kernel) (by decide +kernel), ?_⟩
    refine ⟨_, rfl, 4, _, .d (.int 5), rfl, rfl, at_nat (n := 4) rfl, ?_⟩
    refine c_req A3 (i := 5) (k := 3) (rs' := ([⟨1, 0, true⟩, ⟨0, 0, true⟩, ⟨3, 5, false⟩] : List Rq)) (b := false) rfl rfl (fun m4 hm4 A4 => ?_)
    obtain ⟨dx4, ho4⟩ := A4.ob
    refine ⟨_, rfl, a, dx4, _, rfl, ho4, fl_no _ _ (by decide +kernel) (by decide +kernel), ?_⟩
    refine ⟨_, rfl, 4, _, .d (.int 5), rfl, rfl, at_nat (n := 4) rfl, ?_⟩
    refine c_req A4 (i := 5) (k := 2) (rs' := ([⟨1, 0, true⟩, ⟨0, 0, true⟩, ⟨3, 5, false⟩, ⟨2, 5, false⟩] : List Rq)) (b := false) rfl rfl (fun m5 hm5 A5 => ?_)
    obtain ⟨dx5, ho5⟩ := A5.ob
    refine ⟨_, rfl, a, dx5, _, rfl, ho5, fl_no _ _ (by decide +kernel) (by decide +kernel), ?_⟩
    refine c_hold A5 (L := [.tuple [.int 1, .int 0], .tuple [.int 0, .int 0]]) rfl (fun m6 hm6 A6 => ?_)
    refine ⟨Nat.le_of_ble_eq_true rfl, [.bool true, .bool true, .bool false, .bool false, .tuple [.tuple [.int 1, .int 0], .tuple [.int 0, .int 0]]], rfl, ?_⟩
    refine ⟨_, rfl, ?_⟩
    obtain ⟨dx6, ho6⟩ := A6.ob
    refine ⟨_, rfl, a, dx6, _, rfl, ho6, fl_no _ _ (by decide +kernel) (by decide +kernel), ?_⟩
    refine ⟨_, rfl, 5, _, .d (.int 0), rfl, rfl, at_nat (n := 5) rfl, ?_⟩
    refine c_rel A6 (i := 0) (rs' := ([⟨1, 0, true⟩, ⟨3, 5, true⟩, ⟨2, 5, false⟩] : List Rq)) (d := .int 5) (by rfl) (fun m7 hm7 A7 => ?_)
    obtain ⟨dx7, ho7⟩ := A7.ob
    refine ⟨_, rfl, a, dx7, _, rfl, ho7, fl_no _ _ (by decide +kernel) (by decide +kernel), ?_⟩
    refine c_hold A7 (L := [.tuple [.int 1, .int 0], .tuple [.int 3, .int 5]]) rfl (fun m8 hm8 A8 => ?_)
    obtain ⟨dx8, ho8⟩ := A8.ob
    refine ⟨_, rfl, a, dx8, _, rfl, ho8, fl_no _ _ (by decide +kernel) (by decide +kernel), ?_⟩
    refine c_wait A8 (L := [.tuple [.int 2, .int 5]]) (by rfl) (fun m9 hm9 A9 => ?_)
    obtain ⟨dx9, ho9⟩ := A9.ob
    refine ⟨_, rfl, a, dx9, _, rfl, ho9, fl_no _ _ (by decide +kernel) (by decide +kernel), ?_⟩
    refine ⟨_, rfl, 5, _, .d (.int 0), rfl, rfl, at_nat (n := 5) rfl, ?_⟩
    refine c_rel A9 (i := 0) (rs' := ([⟨3, 5, true⟩, ⟨2, 5, true⟩] : List Rq)) (d := .int 5) (by rfl) (fun m10 hm10 A10 => ?_)
    obtain ⟨dx10, ho10⟩ := A10.ob
    refine ⟨_, rfl, a, dx10, _, rfl, ho10, fl_no _ _ (by decide +kernel) (by decide +kernel), ?_⟩
    refine c_hold A10 (L := [.tuple [.int 3, .int 5], .tuple [.int 2, .int 5]]) rfl (fun m11 hm11 A11 => ?_)
    refine ⟨Nat.le_of_ble_eq_true rfl, [.int 5, .tuple [.tuple [.int 1, .int 0], .tuple [.int 3, .int 5]], .tuple [.tuple [.int 2, .int 5]], .int 5, .tuple [.tuple [.int 3, .int 5], .tuple [.int 2, .int 5]]], rfl, ?_⟩
    refine ⟨_, _, [.bool true, .bool true, .bool false, .bool false, .tuple [.tuple [.int 1, .int 0], .tuple [.int 0, .int 0]], .int 5, .tuple [.tuple [.int 1, .int 0], .tuple [.int 3, .int 5]], .tuple [.tuple [.int 2, .int 5]], .int 5, .tuple [.tuple [.int 3, .int 5], .tuple [.int 2, .int 5]]], rfl, rfl, Nat.le_of_ble_eq_true rfl, rfl, ?_⟩
    refine ⟨_, rfl, ?_⟩
    obtain ⟨dx11, ho11⟩ := A11.ob
    refine ⟨_, rfl, a, dx11, _, rfl, ho11, fl_no _ _ (by decide +kernel) (by decide +kernel), ?_⟩
    refine ⟨_, rfl, 4, _, .d (.int 5), rfl, rfl, at_nat (n := 4) rfl, ?_⟩
    refine c_rel A11 (i := 5) (rs' := ([⟨3, 5, true⟩] : List Rq)) (d := .none) (by rfl) (fun m12 hm12 A12 => ?_)
    obtain ⟨dx12, ho12⟩ := A12.ob
    refine ⟨_, rfl, a, dx12, _, rfl, ho12, fl_no _ _ (by decide +kernel) (by decide +kernel), ?_⟩
    refine c_hold A12 (L := [.tuple [.int 3, .int 5]]) rfl (fun m13 hm13 A13 => ?_)
    obtain ⟨dx13, ho13⟩ := A13.ob
    refine ⟨_, rfl, a, dx13, _, rfl, ho13, c_rep A13 (t := "Line(2 units, 0 waiting)") (L := []) (by rfl) (by decide +kernel) (by decide +kernel) fun m14 hm14 A14 => ⟨_, rfl, ?_⟩⟩
    refine ⟨Nat.le_of_ble_eq_true rfl, [.none, .tuple [.tuple [.int 3, .int 5]], .str "Line(2 units, 0 waiting)"], rfl, ?_⟩
    refine ⟨_, _, [.bool true, .bool true, .bool false, .bool false, .tuple [.tuple [.int 1, .int 0], .tuple [.int 0, .int 0]], .int 5, .tuple [.tuple [.int 1, .int 0], .tuple [.int 3, .int 5]], .tuple [.tuple [.int 2, .int 5]], .int 5, .tuple [.tuple [.int 3, .int 5], .tuple [.int 2, .int 5]], .none, .tuple [.tuple [.int 3, .int 5]], .str "Line(2 units, 0 waiting)"], rfl, rfl, Nat.le_of_ble_eq_true rfl, rfl, ?_⟩
    refine ⟨_, rfl, 5, _, .d (.int 0), rfl, rfl, at_nat (n := 5) rfl, ?_⟩
    refine ⟨Nat.le_of_ble_eq_true rfl, mkT_l (ds := [.int 1, .int 0]) rfl ?_⟩
    refine ⟨_, rfl, 5, _, .d (.int 0), rfl, rfl, at_nat (n := 5) rfl, ?_⟩
    refine ⟨Nat.le_of_ble_eq_true rfl, mkT_l (ds := [.int 0, .int 0]) rfl ?_⟩
    refine ⟨Nat.le_of_ble_eq_true rfl, mkT_l (ds := [.tuple [.int 1, .int 0], .tuple [.int 0, .int 0]]) rfl ?_⟩
    refine ⟨_, rfl, 4, _, .d (.int 5), rfl, rfl, at_nat (n := 4) rfl, ?_⟩
    refine ⟨_, rfl, 5, _, .d (.int 0), rfl, rfl, at_nat (n := 5) rfl, ?_⟩
    refine ⟨Nat.le_of_ble_eq_true rfl, mkT_l (ds := [.int 1, .int 0]) rfl ?_⟩
    refine ⟨_, rfl, 4, _, .d (.int 5), rfl, rfl, at_nat (n := 4) rfl, ?_⟩
    refine ⟨Nat.le_of_ble_eq_true rfl, mkT_l (ds := [.int 3, .int 5]) rfl ?_⟩
    refine ⟨Nat.le_of_ble_eq_true rfl, mkT_l (ds := [.tuple [.int 1, .int 0], .tuple [.int 3, .int 5]]) rfl ?_⟩
    refine ⟨_, rfl, 4, _, .d (.int 5), rfl, rfl, at_nat (n := 4) rfl, ?_⟩
    refine ⟨Nat.le_of_ble_eq_true rfl, mkT_l (ds := [.int 2, .int 5]) rfl ?_⟩
    refine ⟨Nat.le_of_ble_eq_true rfl, mkT_l (ds := [.tuple [.int 2, .int 5]]) rfl ?_⟩
    refine ⟨_, rfl, 4, _, .d (.int 5), rfl, rfl, at_nat (n := 4) rfl, ?_⟩
    refine ⟨Nat.le_of_ble_eq_true rfl, [.bool true, .bool true, .bool false, .bool false, .tuple [.tuple [.int 1, .int 0], .tuple [.int 0, .int 0]], .int 5, .tuple [.tuple [.int 1, .int 0], .tuple [.int 3, .int 5]], .tuple [.tuple [.int 2, .int 5]], .int 5], rfl, ?_⟩
    refine ⟨_, rfl, ?_⟩
    refine ⟨_, rfl, ?_⟩
    refine ⟨_, rfl, 4, _, .d (.int 5), rfl, rfl, at_nat (n := 4) rfl, ?_⟩
    refine ⟨Nat.le_of_ble_eq_true rfl, mkT_l (ds := [.int 3, .int 5]) rfl ?_⟩
    refine ⟨_, rfl, 4, _, .d (.int 5), rfl, rfl, at_nat (n := 4) rfl, ?_⟩
    refine ⟨Nat.le_of_ble_eq_true rfl, mkT_l (ds := [.int 2, .int 5]) rfl ?_⟩
    refine ⟨Nat.le_of_ble_eq_true rfl, mkT_l (ds := [.tuple [.int 3, .int 5], .tuple [.int 2, .int 5]]) rfl ?_⟩
    refine ⟨_, rfl, 4, _, .d (.int 5), rfl, rfl, at_nat (n := 4) rfl, ?_⟩
    refine ⟨Nat.le_of_ble_eq_true rfl, mkT_l (ds := [.int 3, .int 5]) rfl ?_⟩
    refine ⟨Nat.le_of_ble_eq_true rfl, mkT_l (ds := [.tuple [.int 3, .int 5]]) rfl ?_⟩
    refine ⟨Nat.le_of_ble_eq_true rfl, [.tuple [.tuple [.int 3, .int 5], .tuple [.int 2, .int 5]], .none, .tuple [.tuple [.int 3, .int 5]], .str "Line(2 units, 0 waiting)"], rfl, ?_⟩
    refine ⟨_, _, [.bool true, .bool true, .bool false, .bool false, .tuple [.tuple [.int 1, .int 0], .tuple [.int 0, .int 0]], .int 5, .tuple [.tuple [.int 1, .int 0], .tuple [.int 3, .int 5]], .tuple [.tuple [.int 2, .int 5]], .int 5, .tuple [.tuple [.int 3, .int 5], .tuple [.int 2, .int 5]], .none, .tuple [.tuple [.int 3, .int 5]], .str "Line(2 units, 0 waiting)"], rfl, rfl, Nat.le_of_ble_eq_true rfl, rfl, ?_⟩
    exact ⟨.list [.bool true, .bool true, .bool false, .bool false, .tuple [.tuple [.int 1, .int 0], .tuple [.int 0, .int 0]], .int 5, .tuple [.tuple [.int 1, .int 0], .tuple [.int 3, .int 5]], .tuple [.tuple [.int 2, .int 5]], .int 5, .tuple [.tuple [.int 3, .int 5], .tuple [.int 2, .int 5]], .none, .tuple [.tuple [.int 3, .int 5]], .str "Line(2 units, 0 waiting)"], rfl, ⟨by decide +kernel, by decide +kernel, by decide +kernel, by decide +kernel⟩, h _⟩
  · refine ⟨6, rfl, by decide, by decide, ?_⟩
    refine lc_rngE (fun i => .int (((0 + (i : Int)) + 2) % 6)) [.int 2, .int 3, .int 4, .int 5, .int 0, .int 1] (Nat.le_of_ble_eq_true rfl) rfl (fun i M hi hM C' N' hC => iteT ⟨_, rfl, _, rfl, (by decide : (0 : Int) < 6), hC M Mle.refl⟩) fun m0 hm0 => ?_
    refine fun a dx na => c_init (by decide) mu_same fun p m1 A1 => ⟨rfl, ?_⟩
    obtain ⟨dx1, ho1⟩ := A1.ob
    refine ⟨_, rfl, a, dx1, _, rfl, ho1, fl_no _ _ (by decide +kernel) (by decide +kernel), ?_⟩
    refine ⟨_, rfl, 5, _, .d (.int 1), rfl, rfl, at_nat (n := 5) rfl, ?_⟩
    refine c_req A1 (i := 1) (k := 1) (rs' := ([⟨1, 1, true⟩] : List Rq)) (b := true) rfl rfl (fun m2 hm2 A2 => ?_)
    obtain ⟨dx2, ho2⟩ := A2.ob
    refine ⟨_, rfl, a, dx2, _, rfl, ho2, fl_no _ _ (by decide +kernel) (by decide +kernel), ?_⟩
    refine ⟨_, rfl, 5, _, .d (.int 1), rfl, rfl, at_nat (n := 5) rfl, ?_⟩
    refine c_req A2 (i := 1) (k := 0) (rs' := ([⟨1, 1, true⟩, ⟨0, 1, true⟩] : List Rq)) (b := true) rfl rfl (fun m3 hm3 A3 => ?_)
    obtain ⟨dx3, ho3⟩ := A3.ob
    refine ⟨_, rfl, a, dx3, _, rfl, ho3, fl_no _ _ (by decide +kernel) (by decide +kernel), ?_⟩
    refine ⟨_, rfl, 4, _, .d (.int 0), rfl, rfl, at_nat (n := 4) rfl, ?_⟩
    refine c_req A3 (i := 0) (k := 3) (rs' := ([⟨1, 1, true⟩, ⟨0, 1, true⟩, ⟨3, 0, false⟩] : List Rq)) (b := false) rfl rfl (fun m4 hm4 A4 => ?_)
    obtain ⟨dx4, ho4⟩ := A4.ob
    refine ⟨_, rfl, a, dx4, _, rfl, ho4, fl_no _ _ (by decide +kernel) (by decide +kernel), ?_⟩
    refine ⟨_, rfl, 4, _, .d (.int 0), rfl, rfl, at_nat (n := 4) rfl, ?_⟩
    refine c_req A4 (i := 0) (k := 2) (rs' := ([⟨1, 1, true⟩, ⟨0, 1, true⟩, ⟨3, 0, false⟩, ⟨2, 0, false⟩] : List Rq)) (b := false) rfl rfl (fun m5 hm5 A5 => ?_)
    obtain ⟨dx5, ho5⟩ := A5.ob
    refine ⟨_, rfl, a, dx5, _, rfl, ho5, fl_no _ _ (by decide +kernel) (by decide +kernel), ?_⟩
    refine c_hold A5 (L := [.tuple [.int 1, .int 1], .tuple [.int 0, .int 1]]) rfl (fun m6 hm6 A6 => ?_)
    refine ⟨Nat.le_of_ble_eq_true rfl, [.bool true, .bool true, .bool false, .bool false, .tuple [.tuple [.int 1, .int 1], .tuple [.int 0, .int 1]]], rfl, ?_⟩
    refine ⟨_, rfl, ?_⟩
    obtain ⟨dx6, ho6⟩ := A6.ob
    refine ⟨_, rfl, a, dx6, _, rfl, ho6, fl_no _ _ (by decide +kernel) (by decide +kernel), ?_⟩
    refine ⟨_, rfl, 5, _, .d (.int 1), rfl, rfl, at_nat (n := 5) rfl, ?_⟩
    refine c_rel A6 (i := 1) (rs' := ([⟨1, 1, true⟩, ⟨3, 0, true⟩, ⟨2, 0, false⟩] : List Rq)) (d := .int 0) (by rfl) (fun m7 hm7 A7 => ?_)
    obtain ⟨dx7, ho7⟩ := A7.ob
    refine ⟨_, rfl, a, dx7, _, rfl, ho7, fl_no _ _ (by decide +kernel) (by decide +kernel), ?_⟩
    refine c_hold A7 (L := [.tuple [.int 1, .int 1], .tuple [.int 3, .int 0]]) rfl (fun m8 hm8 A8 => ?_)
    obtain ⟨dx8, ho8⟩ := A8.ob
    refine ⟨_, rfl, a, dx8, _, rfl, ho8, fl_no _ _ (by decide +kernel) (by decide +kernel), ?_⟩
    refine c_wait A8 (L := [.tuple [.int 2, .int 0]]) (by rfl) (fun m9 hm9 A9 => ?_)
    obtain ⟨dx9, ho9⟩ := A9.ob
    refine ⟨_, rfl, a, dx9, _, rfl, ho9, fl_no _ _ (by decide +kernel) (by decide +kernel), ?_⟩
    refine ⟨_, rfl, 5, _, .d (.int 1), rfl, rfl, at_nat (n := 5) rfl, ?_⟩
    refine c_rel A9 (i := 1) (rs' := ([⟨3, 0, true⟩, ⟨2, 0, true⟩] : List Rq)) (d := .int 0) (by rfl) (fun m10 hm10 A10 => ?_)
    obtain ⟨dx10, ho10⟩ := A10.ob
    refine ⟨_, rfl, a, dx10, _, rfl, ho10, fl_no _ _ (by decide +kernel) (by decide +kernel), ?_⟩
    refine c_hold A10 (L := [.tuple [.int 3, .int 0], .tuple [.int 2, .int 0]]) rfl (fun m11 hm11 A11 => ?_)
    refine ⟨Nat.le_of_ble_eq_true rfl, [.int 0, .tuple [.tuple [.int 1, .int 1], .tuple [.int 3, .int 0]], .tuple [.tuple [.int 2, .int 0]], .int 0, .tuple [.tuple [.int 3, .int 0], .tuple [.int 2, .int 0]]], rfl, ?_⟩
    refine ⟨_, _, [.bool true, .bool true, .bool false, .bool false, .tuple [.tuple [.int 1, .int 1], .tuple [.int 0, .int 1]], .int 0, .tuple [.tuple [.int 1, .int 1], .tuple [.int 3, .int 0]], .tuple [.tuple [.int 2, .int 0]], .int 0, .tuple [.tuple [.int 3, .int 0], .tuple [.int 2, .int 0]]], rfl, rfl, Nat.le_of_ble_eq_true rfl, rfl, ?_⟩
    refine ⟨_, rfl, ?_⟩
    obtain ⟨dx11, ho11⟩ := A11.ob
    refine ⟨_, rfl, a, dx11, _, rfl, ho11, fl_no _ _ (by decide +kernel) (by decide +kernel), ?_⟩
    refine ⟨_, rfl, 4, _, .d (.int 0), rfl, rfl, at_nat (n := 4) rfl, ?_⟩
    refine c_rel A11 (i := 0) (rs' := ([⟨3, 0, true⟩] : List Rq)) (d := .none) (by rfl) (fun m12 hm12 A12 => ?_)
    obtain ⟨dx12, ho12⟩ := A12.ob
    refine ⟨_, rfl, a, dx12, _, rfl, ho12, fl_no _ _ (by decide +kernel) (by decide +kernel), ?_⟩
    refine c_hold A12 (L := [.tuple [.int 3, .int 0]]) rfl (fun m13 hm13 A13 => ?_)
    obtain ⟨dx13, ho13⟩ := A13.ob
    refine ⟨_, rfl, a, dx13, _, rfl, ho13, c_rep A13 (t := "Line(2 units, 0 waiting)") (L := []) (by rfl) (by decide +kernel) (by decide +kernel) fun m14 hm14 A14 => ⟨_, rfl, ?_⟩⟩
    refine ⟨Nat.le_of_ble_eq_true rfl, [.none, .tuple [.tuple [.int 3, .int 0]], .str "Line(2 units, 0 waiting)"], rfl, ?_⟩
    refine ⟨_, _, [.bool true, .bool true, .bool false, .bool false, .tuple [.tuple [.int 1, .int 1], .tuple [.int 0, .int 1]], .int 0, .tuple [.tuple [.int 1, .int 1], .tuple [.int 3, .int 0]], .tuple [.tuple [.int 2, .int 0]], .int 0, .tuple [.tuple [.int 3, .int 0], .tuple [.int 2, .int 0]], .none, .tuple [.tuple [.int 3, .int 0]], .str "Line(2 units, 0 waiting)"], rfl, rfl, Nat.le_of_ble_eq_true rfl, rfl, ?_⟩
    refine ⟨_, rfl, 5, _, .d (.int 1), rfl, rfl, at_nat (n := 5) rfl, ?_⟩
    refine ⟨Nat.le_of_ble_eq_true rfl, mkT_l (ds := [.int 1, .int 1]) rfl ?_⟩
    refine ⟨_, rfl, 5, _, .d (.int 1), rfl, rfl, at_nat (n := 5) rfl, ?_⟩
    refine ⟨Nat.le_of_ble_eq_true rfl, mkT_l (ds := [.int 0, .int 1]) rfl ?_⟩
    refine ⟨Nat.le_of_ble_eq_true rfl, mkT_l (ds := [.tuple [.int 1, .int 1], .tuple [.int 0, .int 1]]) rfl ?_⟩
    refine ⟨_, rfl, 4, _, .d (.int 0), rfl, rfl, at_nat (n := 4) rfl, ?_⟩
    refine ⟨_, rfl, 5, _, .d (.int 1), rfl, rfl, at_nat (n := 5) rfl, ?_⟩
    refine ⟨Nat.le_of_ble_eq_true rfl, mkT_l (ds := [.int 1, .int 1]) rfl ?_⟩
    refine ⟨_, rfl, 4, _, .d (.int 0), rfl, rfl, at_nat (n := 4) rfl, ?_⟩
    refine ⟨Nat.le_of_ble_eq_true rfl, mkT_l (ds := [.int 3, .int 0]) rfl ?_⟩
    refine ⟨Nat.le_of_ble_eq_true rfl, mkT_l (ds := [.tuple [.int 1, .int 1], .tuple [.int 3, .int 0]]) rfl ?_⟩
    refine ⟨_, rfl, 4, _, .d (.int 0), rfl, rfl, at_nat (n := 4) rfl, ?_⟩
    refine ⟨Nat.le_of_ble_eq_true rfl, mkT_l (ds := [.int 2, .int 0]) rfl ?_⟩
    refine ⟨Nat.le_of_ble_eq_true rfl, mkT_l (ds := [.tuple [.int 2, .int 0]]) rfl ?_⟩
    refine ⟨_, rfl, 4, _, .d (.int 0), rfl, rfl, at_nat (n := 4) rfl, ?_⟩
    refine ⟨Nat.le_of_ble_eq_true rfl, [.bool true, .bool true, .bool false, .bool false, .tuple [.tuple [.int 1, .int 1], .tuple [.int 0, .int 1]], .int 0, .tuple [.tuple [.int 1, .int 1], .tuple [.int 3, .int 0]], .tuple [.tuple [.int 2, .int 0]], .int 0], rfl, ?_⟩
    refine ⟨_, rfl, ?_⟩
    refine ⟨_, rfl, ?_⟩
    refine ⟨_, rfl, 4, _, .d (.int 0), rfl, rfl, at_nat (n := 4) rfl, ?_⟩
    refine ⟨Nat.le_of_ble_eq_true rfl, mkT_l (ds := [.int 3, .int 0]) rfl ?_⟩
    refine ⟨_, rfl, 4, _, .d (.int 0), rfl, rfl, at_nat (n := 4) rfl, ?_⟩
    refine ⟨Nat.le_of_ble_eq_true rfl, mkT_l (ds := [.int 2, .int 0]) rfl ?_⟩
    refine ⟨Nat.le_of_ble_eq_true rfl, mkT_l (ds := [.tuple [.int 3, .int 0], .tuple [.int 2, .int 0]]) rfl ?_⟩
    refine ⟨_, rfl, 4, _, .d (.int 0), rfl, rfl, at_nat (n := 4) rfl, ?_⟩
    refine ⟨Nat.le_of_ble_eq_true rfl, mkT_l (ds := [.int 3, .int 0]) rfl ?_⟩
    refine ⟨Nat.le_of_ble_eq_true rfl, mkT_l (ds := [.tuple [.int 3, .int 0]]) rfl ?_⟩
    refine ⟨Nat.le_of_ble_eq_true rfl, [.tuple [.tuple [.int 3, .int 0], .tuple [.int 2, .int 0]], .none, .tuple [.tuple [.int 3, .int 0]], .str "Line(2 units, 0 waiting)"], rfl, ?_⟩
    refine ⟨_, _, [.bool true, .bool true, .bool false, .bool false, .tuple [.tuple [.int 1, .int 1], .tuple [.int 0, .int 1]], .int 0, .tuple [.tuple [.int 1, .int 1], .tuple [.int 3, .int 0]], .tuple [.tuple [.int 2, .int 0]], .int 0, .tuple [.tuple [.int 3, .int 0], .tuple [.int 2, .int 0]], .none, .tuple [.tuple [.int 3, .int 0]], .str "Line(2 units, 0 waiting)"], rfl, rfl, Nat.le_of_ble_eq_true rfl, rfl, ?_⟩
    exact ⟨.list [.bool true, .bool true, .bool false, .bool false, .tuple [.tuple [.int 1, .int 1], .tuple [.int 0, .int 1]], .int 0, .tuple [.tuple [.int 1, .int 1], .tuple [.int 3, .int 0]], .tuple [.tuple [.int 2, .int 0]], .int 0, .tuple [.tuple [.int 3, .int 0], .tuple [.int 2, .int 0]], .none, .tuple [.tuple [.int 3, .int 0]], .str "Line(2 units, 0 waiting)"], rfl, ⟨by decide +kernel, by decide +kernel, by decide +kernel, by decide +kernel⟩, h _⟩
  · refine ⟨6, rfl, by decide, by decide, ?_⟩
    refine lc_rngE (fun i => .int (((0 + (i : Int)) + 3) % 6)) [.int 3, .int 4, .int 5, .int 0, .int 1, .int 2] (Nat.le_of_ble_eq_true rfl) rfl (fun i M hi hM C' N' hC => iteT ⟨_, rfl, _, rfl, (by decide : (0 : Int) < 6), hC M Mle.refl⟩) fun m0 hm0 => ?_
    refine fun a dx na => c_init (by decide) mu_same fun p m1 A1 => ⟨rfl, ?_⟩
    obtain ⟨dx1, ho1⟩ := A1.ob
    refine ⟨_, rfl, a, dx1, _, rfl, ho1, fl_no _ _ (by decide +kernel) (by decide +kernel), ?_⟩
    refine ⟨_, rfl, 5, _, .d (.int 2), rfl, rfl, at_nat (n := 5) rfl, ?_⟩
    refine c_req A1 (i := 2) (k := 1) (rs' := ([⟨1, 2, true⟩] : List Rq)) (b := true) rfl rfl (fun m2 hm2 A2 => ?_)
    obtain ⟨dx2, ho2⟩ := A2.ob
    refine ⟨_, rfl, a, dx2, _, rfl, ho2, fl_no _ _ (by decide +kernel) (by decide +kernel), ?_⟩
    refine ⟨_, rfl, 5, _, .d (.int 2), rfl, rfl, at_nat (n := 5) rfl, ?_⟩
    refine c_req A2 (i := 2) (k := 0) (rs' := ([⟨1, 2, true⟩, ⟨0, 2, true⟩] : List Rq)) (b := true) rfl rfl (fun m3 hm3 A3 => ?_)
    obtain ⟨dx3, ho3⟩ := A3.ob
    refine ⟨_, rfl, a, dx3, _, rfl, ho3, fl_no _ _ (by decide +kernel) (by decide +kernel), ?_⟩
    refine ⟨_, rfl, 4, _, .d (.int 1), rfl, rfl, at_nat (n := 4) rfl, ?_⟩
    refine c_req A3 (i := 1) (k := 3) (rs' := ([⟨1, 2, true⟩, ⟨0, 2, true⟩, ⟨3, 1, false⟩] : List Rq)) (b := false) rfl rfl (fun m4 hm4 A4 => ?_)
    obtain ⟨dx4, ho4⟩ := A4.ob
    refine ⟨_, rfl, a, dx4, _, rfl, ho4, fl_no _ _ (by decide +kernel) (by decide +kernel), ?_⟩
    refine ⟨_, rfl, 4, _, .d (.int 1), rfl, rfl, at_nat (n := 4) rfl, ?_⟩
    refine c_req A4 (i := 1) (k := 2) (rs' := ([⟨1, 2, true⟩, ⟨0, 2, true⟩, ⟨3, 1, false⟩, ⟨2, 1, false⟩] : List Rq)) (b := false) rfl rfl (fun m5 hm5 A5 => ?_)
    obtain ⟨dx5, ho5⟩ := A5.ob
    refine ⟨_, rfl, a, dx5, _, rfl, ho5, fl_no _ _ (by decide +kernel) (by decide +kernel), ?_⟩
    refine c_hold A5 (L := [.tuple [.int 1, .int 2], .tuple [.int 0, .int 2]]) rfl (fun m6 hm6 A6 => ?_)
    refine ⟨Nat.le_of_ble_eq_true rfl, [.bool true, .bool true, .bool false, .bool false, .tuple [.tuple [.int 1, .int 2], .tuple [.int 0, .int 2]]], rfl, ?_⟩
    refine ⟨_, rfl, ?_⟩
    obtain ⟨dx6, ho6⟩ := A6.ob
    refine ⟨_, rfl, a, dx6, _, rfl, ho6, fl_no _ _ (by decide +kernel) (by decide +kernel), ?_⟩
    refine ⟨_, rfl, 5, _, .d (.int 2), rfl, rfl, at_nat (n := 5) rfl, ?_⟩
    refine c_rel A6 (i := 2) (rs' := ([⟨1, 2, true⟩, ⟨3, 1, true⟩, ⟨2, 1, false⟩] : List Rq)) (d := .int 1) (by rfl) (fun m7 hm7 A7 => ?_)
    obtain ⟨dx7, ho7⟩ := A7.ob
    refine ⟨_, rfl, a, dx7, _, rfl, ho7, fl_no _ _ (by decide +kernel) (by decide +kernel), ?_⟩
    refine c_hold A7 (L := [.tuple [.int 1, .int 2], .tuple [.int 3, .int 1]]) rfl (fun m8 hm8 A8 => ?_)
    obtain ⟨dx8, ho8⟩ := A8.ob
    refine ⟨_, rfl, a, dx8, _, rfl, ho8, fl_no _ _ (by decide +kernel) (by decide +kernel), ?_⟩
    refine c_wait A8 (L := [.tuple [.int 2, .int 1]]) (by rfl) (fun m9 hm9 A9 => ?_)
    obtain ⟨dx9, ho9⟩ := A9.ob
    refine ⟨_, rfl, a, dx9, _, rfl, ho9, fl_no _ _ (by decide +kernel) (by decide +kernel), ?_⟩
    refine ⟨_, rfl, 5, _, .d (.int 2), rfl, rfl, at_nat (n := 5) rfl, ?_⟩
    refine c_rel A9 (i := 2) (rs' := ([⟨3, 1, true⟩, ⟨2, 1, true⟩] : List Rq)) (d := .int 1) (by rfl) (fun m10 hm10 A10 => ?_)
    obtain ⟨dx10, ho10⟩ := A10.ob
    refine ⟨_, rfl, a, dx10, _, rfl, ho10, fl_no _ _ (by decide +kernel) (by decide +kernel), ?_⟩
    refine c_hold A10 (L := [.tuple [.int 3, .int 1], .tuple [.int 2, .int 1]]) rfl (fun m11 hm11 A11 => ?_)
    refine ⟨Nat.le_of_ble_eq_true rfl, [.int 1, .tuple [.tuple [.int 1, .int 2], .tuple [.int 3, .int 1]], .tuple [.tuple [.int 2, .int 1]], .int 1, .tuple [.tuple [.int 3, .int 1], .tuple [.int 2, .int 1]]], rfl, ?_⟩
    refine ⟨_, _, [.bool true, .bool true, .bool false, .bool false, .tuple [.tuple [.int 1, .int 2], .tuple [.int 0, .int 2]], .int 1, .tuple [.tuple [.int 1, .int 2], .tuple [.int 3, .int 1]], .tuple [.tuple [.int 2, .int 1]], .int 1, .tuple [.tuple [.int 3, .int 1], .tuple [.int 2, .int 1]]], rfl, rfl, Nat.le_of_ble_eq_true rfl, rfl, ?_⟩
    refine ⟨_, rfl, ?_⟩
    obtain ⟨dx11, ho11⟩ := A11.ob
    refine ⟨_, rfl, a, dx11, _, rfl, ho11, fl_no _ _ (by decide +kernel) (by decide +kernel), ?_⟩
    refine ⟨_, rfl, 4, _, .d (.int 1), rfl, rfl, at_nat (n := 4) rfl, ?_⟩
    refine c_rel A11 (i := 1) (rs' := ([⟨3, 1, true⟩] : List Rq)) (d := .none) (by rfl) (fun m12 hm12 A12 => ?_)
    obtain ⟨dx12, ho12⟩ := A12.ob
    refine ⟨_, rfl, a, dx12, _, rfl, ho12, fl_no _ _ (by decide +kernel) (by decide +kernel), ?_⟩
    refine c_hold A12 (L := [.tuple [.int 3, .int 1]]) rfl (fun m13 hm13 A13 => ?_)
    obtain ⟨dx13, ho13⟩ := A13.ob
    refine ⟨_, rfl, a, dx13, _, rfl, ho13, c_rep A13 (t := "Line(2 units, 0 waiting)") (L := []) (by rfl) (by decide +kernel) (by decide +kernel) fun m14 hm14 A14 => ⟨_, rfl, ?_⟩⟩
    refine ⟨Nat.le_of_ble_eq_true rfl, [.none, .tuple [.tuple [.int 3, .int 1]], .str "Line(2 units, 0 waiting)"], rfl, ?_⟩
    refine ⟨_, _, [.bool true, .bool true, .bool false, .bool false, .tuple [.tuple [.int 1, .int 2], .tuple [.int 0, .int 2]], .int 1, .tuple [.tuple [.int 1, .int 2], .tuple [.int 3, .int 1]], .tuple [.tuple [.int 2, .int 1]], .int 1, .tuple [.tuple [.int 3, .int 1], .tuple [.int 2, .int 1]], .none, .tuple [.tuple [.int 3, .int 1]], .str "Line(2 units, 0 waiting)"], rfl, rfl, Nat.le_of_ble_eq_true rfl, rfl, ?_⟩
    refine ⟨_, rfl, 5, _, .d (.int 2), rfl, rfl, at_nat (n := 5) rfl, ?_⟩
    refine ⟨Nat.le_of_ble_eq_true rfl, mkT_l (ds := [.int 1, .int 2]) rfl ?_⟩
    refine ⟨_, rfl, 5, _, .d (.int 2), rfl, rfl, at_nat (n := 5) rfl, ?_⟩
    refine ⟨Nat.le_of_ble_eq_true rfl, mkT_l (ds := [.int 0, .int 2]) rfl ?_⟩
    refine ⟨Nat.le_of_ble_eq_true rfl, mkT_l (ds := [.tuple [.int 1, .int 2], .tuple [.int 0, .int 2]]) rfl ?_⟩
    refine ⟨_, rfl, 4, _, .d (.int 1), rfl, rfl, at_nat (n := 4) rfl, ?_⟩
    refine ⟨_, rfl, 5, _, .d (.int 2), rfl, rfl, at_nat (n := 5) rfl, ?_⟩
    refine ⟨Nat.le_of_ble_eq_true rfl, mkT_l (ds := [.int 1, .int 2]) rfl ?_⟩
    refine ⟨_, rfl, 4, _, .d (.int 1), rfl, rfl, at_nat (n := 4) rfl, ?_⟩
    refine ⟨Nat.le_of_ble_eq_true rfl, mkT_l (ds := [.int 3, .int 1]) rfl ?_⟩
    refine ⟨Nat.le_of_ble_eq_true rfl, mkT_l (ds := [.tuple [.int 1, .int 2], .tuple [.int 3, .int 1]]) rfl ?_⟩
    refine ⟨_, rfl, 4, _, .d (.int 1), rfl, rfl, at_nat (n := 4) rfl, ?_⟩
    refine ⟨Nat.le_of_ble_eq_true rfl, mkT_l (ds := [.int 2, .int 1]) rfl ?_⟩
    refine ⟨Nat.le_of_ble_eq_true rfl, mkT_l (ds := [.tuple [.int 2, .int 1]]) rfl ?_⟩
    refine ⟨_, rfl, 4, _, .d (.int 1), rfl, rfl, at_nat (n := 4) rfl, ?_⟩
    refine ⟨Nat.le_of_ble_eq_true rfl, [.bool true, .bool true, .bool false, .bool false, .tuple [.tuple [.int 1, .int 2], .tuple [.int 0, .int 2]], .int 1, .tuple [.tuple [.int 1, .int 2], .tuple [.int 3, .int 1]], .tuple [.tuple [.int 2, .int 1]], .int 1], rfl, ?_⟩
    refine ⟨_, rfl, ?_⟩
    refine ⟨_, rfl, ?_⟩
    refine ⟨_, rfl, 4, _, .d (.int 1), rfl, rfl, at_nat (n := 4) rfl, ?_⟩
    refine ⟨Nat.le_of_ble_eq_true rfl, mkT_l (ds := [.int 3, .int 1]) rfl ?_⟩
    refine ⟨_, rfl, 4, _, .d (.int 1), rfl, rfl, at_nat (n := 4) rfl, ?_⟩
    refine ⟨Nat.le_of_ble_eq_true rfl, mkT_l (ds := [.int 2, .int 1]) rfl ?_⟩
    refine ⟨Nat.le_of_ble_eq_true rfl, mkT_l (ds := [.tuple [.int 3, .int 1], .tuple [.int 2, .int 1]]) rfl ?_⟩
    refine ⟨_, rfl, 4, _, .d (.int 1), rfl, rfl, at_nat (n := 4) rfl, ?_⟩
    refine ⟨Nat.le_of_ble_eq_true rfl, mkT_l (ds := [.int 3, .int 1]) rfl ?_⟩
    refine ⟨Nat.le_of_ble_eq_true rfl, mkT_l (ds := [.tuple [.int 3, .int 1]]) rfl ?_⟩
    refine ⟨Nat.le_of_ble_eq_true rfl, [.tuple [.tuple [.int 3, .int 1], .tuple [.int 2, .int 1]], .none, .tuple [.tuple [.int 3, .int 1]], .str "Line(2 units, 0 waiting)"], rfl, ?_⟩
    refine ⟨_, _, [.bool true, .bool true, .bool false, .bool false, .tuple [.tuple [.int 1, .int 2], .tuple [.int 0, .int 2]], .int 1, .tuple [.tuple [.int 1, .int 2], .tuple [.int 3, .int 1]], .tuple [.tuple [.int 2, .int 1]], .int 1, .tuple [.tuple [.int 3, .int 1], .tuple [.int 2, .int 1]], .none, .tuple [.tuple [.int 3, .int 1]], .str "Line(2 units, 0 waiting)"], rfl, rfl, Nat.le_of_ble_eq_true rfl, rfl, ?_⟩
    exact ⟨.list [.bool true, .bool true, .bool false, .bool false, .tuple [.tuple [.int 1, .int 2], .tuple [.int 0, .int 2]], .int 1, .tuple [.tuple [.int 1, .int 2], .tuple [.int 3, .int 1]], .tuple [.tuple [.int 2, .int 1]], .int 1, .tuple [.tuple [.int 3, .int 1], .tuple [.int 2, .int 1]], .none, .tuple [.tuple [.int 3, .int 1]], .str "Line(2 units, 0 waiting)"], rfl, ⟨by decide +kernel, by decide +kernel, by decide +kernel, by decide +kernel⟩, h _⟩
  · refine ⟨6, rfl, by decide, by decide, ?_⟩
    refine lc_rngE (fun i => .int (((0 + (i : Int)) + 4) % 6)) [.int 4, .int 5, .int 0, .int 1, .int 2, .int 3] (Nat.le_of_ble_eq_true rfl) rfl (fun i M hi hM C' N' hC => iteT ⟨_, rfl, _, rfl, (by decide : (0 : Int) < 6), hC M Mle.refl⟩) fun m0 hm0 => ?_
    refine fun a dx na => c_init (by decide) mu_same fun p m1 A1 => ⟨rfl, ?_⟩
    obtain ⟨dx1, ho1⟩ := A1.ob
    refine ⟨_, rfl, a, dx1, _, rfl, ho1, fl_no _ _ (by decide +kernel) (by decide +kernel), ?_⟩
    refine ⟨_, rfl, 5, _, .d (.int 3), rfl, rfl, at_nat (n := 5) rfl, ?_⟩
    refine c_req A1 (i := 3) (k := 1) (rs' := ([⟨1, 3, true⟩] : List Rq)) (b := true) rfl rfl (fun m2 hm2 A2 => ?_)
    obtain ⟨dx2, ho2⟩ := A2.ob
    refine ⟨_, rfl, a, dx2, _, rfl, ho2, fl_no _ _ (by decide +kernel) (by decide +kernel), ?_⟩
    refine ⟨_, rfl, 5, _, .d (.int 3), rfl, rfl, at_nat (n := 5) rfl, ?_⟩
    refine c_req A2 (i := 3) (k := 0) (rs' := ([⟨1, 3, true⟩, ⟨0, 3, true⟩] : List Rq)) (b := true) rfl rfl (fun m3 hm3 A3 => ?_)
    obtain ⟨dx3, ho3⟩ := A3.ob
    refine ⟨_, rfl, a, dx3, _, rfl, ho3, fl_no _ _ (by decide +kernel) (by decide +kernel), ?_⟩
    refine ⟨_, rfl, 4, _, .d (.int 2), rfl, rfl, at_nat (n := 4) rfl, ?_⟩
    refine c_req A3 (i := 2) (k := 3) (rs' := ([⟨1, 3, true⟩, ⟨0, 3, true⟩, ⟨3, 2, false⟩] : List Rq)) (b := false) rfl rfl (fun m4 hm4 A4 => ?_)
    obtain ⟨dx4, ho4⟩ := A4.ob
    refine ⟨_, rfl, a, dx4, _, rfl, ho4, fl_no _ _ (by decide +kernel) (by decide +kernel), ?_⟩
    refine ⟨_, rfl, 4, _, .d (.int 2), rfl, rfl, at_nat (n := 4) rfl, ?_⟩
    refine c_req A4 (i := 2) (k := 2) (rs' := ([⟨1, 3, true⟩, ⟨0, 3, true⟩, ⟨3, 2, false⟩, ⟨2, 2, false⟩] : List Rq)) (b := false) rfl rfl (fun m5 hm5 A5 => ?_)
    obtain ⟨dx5, ho5⟩ := A5.ob
    refine ⟨_, rfl, a, dx5, _, rfl, ho5, fl_no _ _ (by decide +kernel) (by decide +kernel), ?_⟩
    refine c_hold A5 (L := [.tuple [.int 1, .int 3], .tuple [.int 0, .int 3]]) rfl (fun m6 hm6 A6 => ?_)
    refine ⟨Nat.le_of_ble_eq_true rfl, [.bool true, .bool true, .bool false, .bool false, .tuple [.tuple [.int 1, .int 3], .tuple [.int 0, .int 3]]], rfl, ?_⟩
    refine ⟨_, rfl, ?_⟩
    obtain ⟨dx6, ho6⟩ := A6.ob
    refine ⟨_, rfl, a, dx6, _, rfl, ho6, fl_no _ _ (by decide +kernel) (by decide +kernel), ?_⟩
    refine ⟨_, rfl, 5, _, .d (.int 3), rfl, rfl, at_nat (n := 5) rfl, ?_⟩
    refine c_rel A6 (i := 3) (rs' := ([⟨1, 3, true⟩, ⟨3, 2, true⟩, ⟨2, 2, false⟩] : List Rq)) (d := .int 2) (by rfl) (fun m7 hm7 A7 => ?_)
    obtain ⟨dx7, ho7⟩ := A7.ob
    refine ⟨_, rfl, a, dx7, _, rfl, ho7, fl_no _ _ (by decide +kernel) (by decide +kernel), ?_⟩
    refine c_hold A7 (L := [.tuple [.int 1, .int 3], .tuple [.int 3, .int 2]]) rfl (fun m8 hm8 A8 => ?_)
    obtain ⟨dx8, ho8⟩ := A8.ob
    refine ⟨_, rfl, a, dx8, _, rfl, ho8, fl_no _ _ (by decide +kernel) (by decide +kernel), ?_⟩
    refine c_wait A8 (L := [.tuple [.int 2, .int 2]]) (by rfl) (fun m9 hm9 A9 => ?_)
    obtain ⟨dx9, ho9⟩ := A9.ob
    refine ⟨_, rfl, a, dx9, _, rfl, ho9, fl_no _ _ (by decide +kernel) (by decide +kernel), ?_⟩
    refine ⟨_, rfl, 5, _, .d (.int 3), rfl, rfl, at_nat (n := 5) rfl, ?_⟩
    refine c_rel A9 (i := 3) (rs' := ([⟨3, 2, true⟩, ⟨2, 2, true⟩] : List Rq)) (d := .int 2) (by rfl) (fun m10 hm10 A10 => ?_)
    obtain ⟨dx10, ho10⟩ := A10.ob
    refine ⟨_, rfl, a, dx10, _, rfl, ho10, fl_no _ _ (by decide +kernel) (by decide +kernel), ?_⟩
    refine c_hold A10 (L := [.tuple [.int 3, .int 2], .tuple [.int 2, .int 2]]) rfl (fun m11 hm11 A11 => ?_)
    refine ⟨Nat.le_of_ble_eq_true rfl, [.int 2, .tuple [.tuple [.int 1, .int 3], .tuple [.int 3, .int 2]], .tuple [.tuple [.int 2, .int 2]], .int 2, .tuple [.tuple [.int 3, .int 2], .tuple [.int 2, .int 2]]], rfl, ?_⟩
    refine ⟨_, _, [.bool true, .bool true, .bool false, .bool false, .tuple [.tuple [.int 1, .int 3], .tuple [.int 0, .int 3]], .int 2, .tuple [.tuple [.int 1, .int 3], .tuple [.int 3, .int 2]], .tuple [.tuple [.int 2, .int 2]], .int 2, .tuple [.tuple [.int 3, .int 2], .tuple [.int 2, .int 2]]], rfl, rfl, Nat.le_of_ble_eq_true rfl, rfl, ?_⟩
    refine ⟨_, rfl, ?_⟩
    obtain ⟨dx11, ho11⟩ := A11.ob
    refine ⟨_, rfl, a, dx11, _, rfl, ho11, fl_no _ _ (by decide +kernel) (by decide +kernel), ?_⟩
    refine ⟨_, rfl, 4, _, .d (.int 2), rfl, rfl, at_nat (n := 4) rfl, ?_⟩
    refine c_rel A11 (i := 2) (rs' := ([⟨3, 2, true⟩] : List Rq)) (d := .none) (by rfl) (fun m12 hm12 A12 => ?_)
    obtain ⟨dx12, ho12⟩ := A12.ob
    refine ⟨_, rfl, a, dx12, _, rfl, ho12, fl_no _ _ (by decide +kernel) (by decide +kernel), ?_⟩
    refine c_hold A12 (L := [.tuple [.int 3, .int 2]]) rfl (fun m13 hm13 A13 => ?_)
    obtain ⟨dx13, ho13⟩ := A13.ob
    refine ⟨_, rfl, a, dx13, _, rfl, ho13, c_rep A13 (t := "Line(2 units, 0 waiting)") (L := []) (by rfl) (by decide +kernel) (by decide +kernel) fun m14 hm14 A14 => ⟨_, rfl, ?_⟩⟩
    refine ⟨Nat.le_of_ble_eq_true rfl, [.none, .tuple [.tuple [.int 3, .int 2]], .str "Line(2 units, 0 waiting)"], rfl, ?_⟩
    refine ⟨_, _, [.bool true, .bool true, .bool false, .bool false, .tuple [.tuple [.int 1, .int 3], .tuple [.int 0, .int 3]], .int 2, .tuple [.tuple [.int 1, .int 3], .tuple [.int 3, .int 2]], .tuple [.tuple [.int 2, .int 2]], .int 2, .tuple [.tuple [.int 3, .int 2], .tuple [.int 2, .int 2]], .none, .tuple [.tuple [.int 3, .int 2]], .str "Line(2 units, 0 waiting)"], rfl, rfl, Nat.le_of_ble_eq_true rfl, rfl, ?_⟩
    refine ⟨_, rfl, 5, _, .d (.int 3), rfl, rfl, at_nat (n := 5) rfl, ?_⟩
    refine ⟨Nat.le_of_ble_eq_true rfl, mkT_l (ds := [.int 1, .int 3]) rfl ?_⟩
    refine ⟨_, rfl, 5, _, .d (.int 3), rfl, rfl, at_nat (n := 5) rfl, ?_⟩
    refine ⟨Nat.le_of_ble_eq_true rfl, mkT_l (ds := [.int 0, .int 3]) rfl ?_⟩
    refine ⟨Nat.le_of_ble_eq_true rfl, mkT_l (ds := [.tuple [.int 1, .int 3], .tuple [.int 0, .int 3]]) rfl ?_⟩
    refine ⟨_, rfl, 4, _, .d (.int 2), rfl, rfl, at_nat (n := 4) rfl, ?_⟩
    refine ⟨_, rfl, 5, _, .d (.int 3), rfl, rfl, at_nat (n := 5) rfl, ?_⟩
    refine ⟨Nat.le_of_ble_eq_true rfl, mkT_l (ds := [.int 1, .int 3]) rfl ?_⟩
    refine ⟨_, rfl, 4, _, .d (.int 2), rfl, rfl, at_nat (n := 4) rfl, ?_⟩
    refine ⟨Nat.le_of_ble_eq_true rfl, mkT_l (ds := [.int 3, .int 2]) rfl ?_⟩
    refine ⟨Nat.le_of_ble_eq_true rfl, mkT_l (ds := [.tuple [.int 1, .int 3], .tuple [.int 3, .int 2]]) rfl ?_⟩
    refine ⟨_, rfl, 4, _, .d (.int 2), rfl, rfl, at_nat (n := 4) rfl, ?_⟩
    refine ⟨Nat.le_of_ble_eq_true rfl, mkT_l (ds := [.int 2, .int 2]) rfl ?_⟩
    refine ⟨Nat.le_of_ble_eq_true rfl, mkT_l (ds := [.tuple [.int 2, .int 2]]) rfl ?_⟩
    refine ⟨_, rfl, 4, _, .d (.int 2), rfl, rfl, at_nat (n := 4) rfl, ?_⟩
    refine ⟨Nat.le_of_ble_eq_true rfl, [.bool true, .bool true, .bool false, .bool false, .tuple [.tuple [.int 1, .int 3], .tuple [.int 0, .int 3]], .int 2, .tuple [.tuple [.int 1, .int 3], .tuple [.int 3, .int 2]], .tuple [.tuple [.int 2, .int 2]], .int 2], rfl, ?_⟩
    refine ⟨_, rfl, ?_⟩
    refine ⟨_, rfl, ?_⟩
    refine ⟨_, rfl, 4, _, .d (.int 2), rfl, rfl, at_nat (n := 4) rfl, ?_⟩
    refine ⟨Nat.le_of_ble_eq_true rfl, mkT_l (ds := [.int 3, .int 2]) rfl ?_⟩
    refine ⟨_, rfl, 4, _, .d (.int 2), rfl, rfl, at_nat (n := 4) rfl, ?_⟩
    refine ⟨Nat.le_of_ble_eq_true rfl, mkT_l (ds := [.int 2, .int 2]) rfl ?_⟩
    refine ⟨Nat.le_of_ble_eq_true rfl, mkT_l (ds := [.tuple [.int 3, .int 2], .tuple [.int 2, .int 2]]) rfl ?_⟩
    refine ⟨_, rfl, 4, _, .d (.int 2), rfl, rfl, at_nat (n := 4) rfl, ?_⟩
    refine ⟨Nat.le_of_ble_eq_true rfl, mkT_l (ds := [.int 3, .int 2]) rfl ?_⟩
    refine ⟨Nat.le_of_ble_eq_true rfl, mkT_l (ds := [.tuple [.int 3, .int 2]]) rfl ?_⟩
    refine ⟨Nat.le_of_ble_eq_true rfl, [.tuple [.tuple [.int 3, .int 2], .tuple [.int 2, .int 2]], .none, .tuple [.tuple [.int 3, .int 2]], .str "Line(2 units, 0 waiting)"], rfl, ?_⟩
    refine ⟨_, _, [.bool true, .bool true, .bool false, .bool false, .tuple [.tuple [.int 1, .int 3], .tuple [.int 0, .int 3]], .int 2, .tuple [.tuple [.int 1, .int 3], .tuple [.int 3, .int 2]], .tuple [.tuple [.int 2, .int 2]], .int 2, .tuple [.tuple [.int 3, .int 2], .tuple [.int 2, .int 2]], .none, .tuple [.tuple [.int 3, .int 2]], .str "Line(2 units, 0 waiting)"], rfl, rfl, Nat.le_of_ble_eq_true rfl, rfl, ?_⟩
    exact ⟨.list [.bool true, .bool true, .bool false, .bool false, .tuple [.tuple [.int 1, .int 3], .tuple [.int 0, .int 3]], .int 2, .tuple [.tuple [.int 1, .int 3], .tuple [.int 3, .int 2]], .tuple [.tuple [.int 2, .int 2]], .int 2, .tuple [.tuple [.int 3, .int 2], .tuple [.int 2, .int 2]], .none, .tuple [.tuple [.int 3, .int 2]], .str "Line(2 units, 0 waiting)"], rfl, ⟨by decide +kernel, by decide +kernel, by decide +kernel, by decide +kernel⟩, h _⟩
  · refine ⟨6, rfl, by decide, by decide, ?_⟩
    refine lc_rngE (fun i => .int (((0 + (i : Int)) + 5) % 6)) [.int 5, .int 0, .int 1, .int 2, .int 3, .int 4] (Nat.le_of_ble_eq_true rfl) rfl (fun i M hi hM C' N' hC => iteT ⟨_, rfl, _, rfl, (by decide : (0 : Int) < 6), hC M Mle.refl⟩) fun m0 hm0 => ?_
    refine fun a dx na => c_init (by decide) mu_same fun p m1 A1 => ⟨rfl, ?_⟩
    obtain ⟨dx1, ho1⟩ := A1.ob
    refine ⟨_, rfl, a, dx1, _, rfl, ho1, fl_no _ _ (by decide +kernel) (by decide +kernel), ?_⟩
    refine ⟨_, rfl, 5, _, .d (.int 4), rfl, rfl, at_nat (n := 5) rfl, ?_⟩
    refine c_req A1 (i := 4) (k := 1) (rs' := ([⟨1, 4, true⟩] : List Rq)) (b := true) rfl rfl (fun m2 hm2 A2 => ?_)
    obtain ⟨dx2, ho2⟩ := A2.ob
    refine ⟨_, rfl, a, dx2, _, rfl, ho2, fl_no _ _ (by decide +kernel) (by decide +kernel), ?_⟩
    refine ⟨_, rfl, 5, _, .d (.int 4), rfl, rfl, at_nat (n := 5) rfl, ?_⟩
    refine c_req A2 (i := 4) (k := 0) (rs' := ([⟨1, 4, true⟩, ⟨0, 4, true⟩] : List Rq)) (b := true) rfl rfl (fun m3 hm3 A3 => ?_)
    obtain ⟨dx3, ho3⟩ := A3.ob
    refine ⟨_, rfl, a, dx3, _, rfl, ho3, fl_no _ _ (by decide +kernel) (by decide +kernel), ?_⟩
    refine ⟨_, rfl, 4, _, .d (.int 3), rfl, rfl, at_nat (n := 4) rfl, ?_⟩
    refine c_req A3 (i := 3) (k := 3) (rs' := ([⟨1, 4, true⟩, ⟨0, 4, true⟩, ⟨3, 3, false⟩] : List Rq)) (b := false) rfl rfl (fun m4 hm4 A4 => ?_)
    obtain ⟨dx4, ho4⟩ := A4.ob
    refine ⟨_, rfl, a, dx4, _, rfl, ho4, fl_no _ _ (by decide +kernel) (by decide +kernel), ?_⟩
    refine ⟨_, rfl, 4, _, .d (.int 3), rfl, rfl, at_nat (n := 4) rfl, ?_⟩
    refine c_req A4 (i := 3) (k := 2) (rs' := ([⟨1, 4, true⟩, ⟨0, 4, true⟩, ⟨3, 3, false⟩, ⟨2, 3, false⟩] : List Rq)) (b := false) rfl rfl (fun m5 hm5 A5 => ?_)
    obtain ⟨dx5, ho5⟩ := A5.ob
    refine ⟨_, rfl, a, dx5, _, rfl, ho5, fl_no _ _ (by decide +kernel) (by decide +kernel), ?_⟩
    refine c_hold A5 (L := [.tuple [.int 1, .int 4], .tuple [.int 0, .int 4]]) rfl (fun m6 hm6 A6 => ?_)
    refine ⟨Nat.le_of_ble_eq_true rfl, [.bool true, .bool true, .bool false, .bool false, .tuple [.tuple [.int 1, .int 4], .tuple [.int 0, .int 4]]], rfl, ?_⟩
    refine ⟨_, rfl, ?_⟩
    obtain ⟨dx6, ho6⟩ := A6.ob
    refine ⟨_, rfl, a, dx6, _, rfl, ho6, fl_no _ _ (by decide +kernel) (by decide +kernel), ?_⟩
    refine ⟨_, rfl, 5, _, .d (.int 4), rfl, rfl, at_nat (n := 5) rfl, ?_⟩
    refine c_rel A6 (i := 4) (rs' := ([⟨1, 4, true⟩, ⟨3, 3, true⟩, ⟨2, 3, false⟩] : List Rq)) (d := .int 3) (by rfl) (fun m7 hm7 A7 => ?_)
    obtain ⟨dx7, ho7⟩ := A7.ob
    refine ⟨_, rfl, a, dx7, _, rfl, ho7, fl_no _ _ (by decide +kernel) (by decide +kernel), ?_⟩
    refine c_hold A7 (L := [.tuple [.int 1, .int 4], .tuple [.int 3, .int 3]]) rfl (fun m8 hm8 A8 => ?_)
    obtain ⟨dx8, ho8⟩ := A8.ob
    refine ⟨_, rfl, a, dx8, _, rfl, ho8, fl_no _ _ (by decide +kernel) (by decide +kernel), ?_⟩
    refine c_wait A8 (L := [.tuple [.int 2, .int 3]]) (by rfl) (fun m9 hm9 A9 => ?_)
    obtain ⟨dx9, ho9⟩ := A9.ob
    refine ⟨_, rfl, a, dx9, _, rfl, ho9, fl_no _ _ (by decide +kernel) (by decide +kernel), ?_⟩
    refine ⟨_, rfl, 5, _, .d (.int 4), rfl, rfl, at_nat (n := 5) rfl, ?_⟩
    refine c_rel A9 (i := 4) (rs' := ([⟨3, 3, true⟩, ⟨2, 3, true⟩] : List Rq)) (d := .int 3) (by rfl) (fun m10 hm10 A10 => ?_)
    obtain ⟨dx10, ho10⟩ := A10.ob
    refine ⟨_, rfl, a, dx10, _, rfl, ho10, fl_no _ _ (by decide +kernel) (by decide +kernel), ?_⟩
    refine c_hold A10 (L := [.tuple [.int 3, .int 3], .tuple [.int 2, .int 3]]) rfl (fun m11 hm11 A11 => ?_)
    refine ⟨Nat.le_of_ble_eq_true rfl, [.int 3, .tuple [.tuple [.int 1, .int 4], .tuple [.int 3, .int 3]], .tuple [.tuple [.int 2, .int 3]], .int 3, .tuple [.tuple [.int 3, .int 3], .tuple [.int 2, .int 3]]], rfl, ?_⟩
    refine ⟨_, _, [.bool true, .bool true, .bool false, .bool false, .tuple [.tuple [.int 1, .int 4], .tuple [.int 0, .int 4]], .int 3, .tuple [.tuple [.int 1, .int 4], .tuple [.int 3, .int 3]], .tuple [.tuple [.int 2, .int 3]], .int 3, .tuple [.tuple [.int 3, .int 3], .tuple [.int 2, .int 3]]], rfl, rfl, Nat.le_of_ble_eq_true rfl, rfl, ?_⟩
    refine ⟨_, rfl, ?_⟩
    obtain ⟨dx11, ho11⟩ := A11.ob
    refine ⟨_, rfl, a, dx11, _, rfl, ho11, fl_no _ _ (by decide +kernel) (by decide +kernel), ?_⟩
    refine ⟨_, rfl, 4, _, .d (.int 3), rfl, rfl, at_nat (n := 4) rfl, ?_⟩
    refine c_rel A11 (i := 3) (rs' := ([⟨3, 3, true⟩] : List Rq)) (d := .none) (by rfl) (fun m12 hm12 A12 => ?_)
    obtain ⟨dx12, ho12⟩ := A12.ob
    refine ⟨_, rfl, a, dx12, _, rfl, ho12, fl_no _ _ (by decide +kernel) (by decide +kernel), ?_⟩
    refine c_hold A12 (L := [.tuple [.int 3, .int 3]]) rfl (fun m13 hm13 A13 => ?_)
    obtain ⟨dx13, ho13⟩ := A13.ob
    refine ⟨_, rfl, a, dx13, _, rfl, ho13, c_rep A13 (t := "Line(2 units, 0 waiting)") (L := []) (by rfl) (by decide +kernel) (by decide +kernel) fun m14 hm14 A14 => ⟨_, rfl, ?_⟩⟩
    refine ⟨Nat.le_of_ble_eq_true rfl, [.none, .tuple [.tuple [.int 3, .int 3]], .str "Line(2 units, 0 waiting)"], rfl, ?_⟩
    refine ⟨_, _, [.bool true, .bool true, .bool false, .bool false, .tuple [.tuple [.int 1, .int 4], .tuple [.int 0, .int 4]], .int 3, .tuple [.tuple [.int 1, .int 4], .tuple [.int 3, .int 3]], .tuple [.tuple [.int 2, .int 3]], .int 3, .tuple [.tuple [.int 3, .int 3], .tuple [.int 2, .int 3]], .none, .tuple [.tuple [.int 3, .int 3]], .str "Line(2 units, 0 waiting)"], rfl, rfl, Nat.le_of_ble_eq_true rfl, rfl, ?_⟩
    refine ⟨_, rfl, 5, _, .d (.int 4), rfl, rfl, at_nat (n := 5) rfl, ?_⟩
    refine ⟨Nat.le_of_ble_eq_true rfl, mkT_l (ds := [.int 1, .int 4]) rfl ?_⟩
    refine ⟨_, rfl, 5, _, .d (.int 4), rfl, rfl, at_nat (n := 5) rfl, ?_⟩
    refine ⟨Nat.le_of_ble_eq_true rfl, mkT_l (ds := [.int 0, .int 4]) rfl ?_⟩
    refine ⟨Nat.le_of_ble_eq_true rfl, mkT_l (ds := [.tuple [.int 1, .int 4], .tuple [.int 0, .int 4]]) rfl ?_⟩
    refine ⟨_, rfl, 4, _, .d (.int 3), rfl, rfl, at_nat (n := 4) rfl, ?_⟩
    refine ⟨_, rfl, 5, _, .d (.int 4), rfl, rfl, at_nat (n := 5) rfl, ?_⟩
    refine ⟨Nat.le_of_ble_eq_true rfl, mkT_l (ds := [.int 1, .int 4]) rfl ?_⟩
    refine ⟨_, rfl, 4, _, .d (.int 3), rfl, rfl, at_nat (n := 4) rfl, ?_⟩
    refine ⟨Nat.le_of_ble_eq_true rfl, mkT_l (ds := [.int 3, .int 3]) rfl ?_⟩
    refine ⟨Nat.le_of_ble_eq_true rfl, mkT_l (ds := [.tuple [.int 1, .int 4], .tuple [.int 3, .int 3]]) rfl ?_⟩
    refine ⟨_, rfl, 4, _, .d (.int 3), rfl, rfl, at_nat (n := 4) rfl, ?_⟩
    refine ⟨Nat.le_of_ble_eq_true rfl, mkT_l (ds := [.int 2, .int 3]) rfl ?_⟩
    refine ⟨Nat.le_of_ble_eq_true rfl, mkT_l (ds := [.tuple [.int 2, .int 3]]) rfl ?_⟩
    refine ⟨_, rfl, 4, _, .d (.int 3), rfl, rfl, at_nat (n := 4) rfl, ?_⟩
    refine ⟨Nat.le_of_ble_eq_true rfl, [.bool true, .bool true, .bool false, .bool false, .tuple [.tuple [.int 1, .int 4], .tuple [.int 0, .int 4]], .int 3, .tuple [.tuple [.int 1, .int 4], .tuple [.int 3, .int 3]], .tuple [.tuple [.int 2, .int 3]], .int 3], rfl, ?_⟩
    refine ⟨_, rfl, ?_⟩
    refine ⟨_, rfl, ?_⟩
    refine ⟨_, rfl, 4, _, .d (.int 3), rfl, rfl, at_nat (n := 4) rfl, ?_⟩
    refine ⟨Nat.le_of_ble_eq_true rfl, mkT_l (ds := [.int 3, .int 3]) rfl ?_⟩
    refine ⟨_, rfl, 4, _, .d (.int 3), rfl, rfl, at_nat (n := 4) rfl, ?_⟩
    refine ⟨Nat.le_of_ble_eq_true rfl, mkT_l (ds := [.int 2, .int 3]) rfl ?_⟩
    refine ⟨Nat.le_of_ble_eq_true rfl, mkT_l (ds := [.tuple [.int 3, .int 3], .tuple [.int 2, .int 3]]) rfl ?_⟩
    refine ⟨_, rfl, 4, _, .d (.int 3), rfl, rfl, at_nat (n := 4) rfl, ?_⟩
    refine ⟨Nat.le_of_ble_eq_true rfl, mkT_l (ds := [.int 3, .int 3]) rfl ?_⟩
    refine ⟨Nat.le_of_ble_eq_true rfl, mkT_l (ds := [.tuple [.int 3, .int 3]]) rfl ?_⟩
    refine ⟨Nat.le_of_ble_eq_true rfl, [.tuple [.tuple [.int 3, .int 3], .tuple [.int 2, .int 3]], .none, .tuple [.tuple [.int 3, .int 3]], .str "Line(2 units, 0 waiting)"], rfl, ?_⟩
    refine ⟨_, _, [.bool true, .bool true, .bool false, .bool false, .tuple [.tuple [.int 1, .int 4], .tuple [.int 0, .int 4]], .int 3, .tuple [.tuple [.int 1, .int 4], .tuple [.int 3, .int 3]], .tuple [.tuple [.int 2, .int 3]], .int 3, .tuple [.tuple [.int 3, .int 3], .tuple [.int 2, .int 3]], .none, .tuple [.tuple [.int 3, .int 3]], .str "Line(2 units, 0 waiting)"], rfl, rfl, Nat.le_of_ble_eq_true rfl, rfl, ?_⟩
    exact ⟨.list [.bool true, .bool true, .bool false, .bool false, .tuple [.tuple [.int 1, .int 4], .tuple [.int 0, .int 4]], .int 3, .tuple [.tuple [.int 1, .int 4], .tuple [.int 3, .int 3]], .tuple [.tuple [.int 2, .int 3]], .int 3, .tuple [.tuple [.int 3, .int 3], .tuple [.int 2, .int 3]], .none, .tuple [.tuple [.int 3, .int 3]], .str "Line(2 units, 0 waiting)"], rfl, ⟨by decide +kernel, by decide +kernel, by decide +kernel, by decide +kernel⟩, h _⟩
abbrev s_law_fourth_case : Stmt := top 25
abbrev N_law_fourth_case : List Str := ["_law_shift", "_law_p", "_law_line", "_law_found", "_law_expected", "_law_place"]
theorem sc_law_fourth_case : FnScope N_law_fourth_case ["_law_shift"] (defScope s_law_fourth_case) := ⟨rfl, rfl, rfl, by decide +kernel, rfl, by decide +kernel, by decide +kernel⟩
theorem ok_law_fourth_case {f : Addr} {fd : FuncData} (F : Fun K "_law_fourth_case" "_law_fourth_case" s_law_fourth_case f fd) (T : Txt K mg) {C2 XH fN f_request f_preempt f_release f_holders f_waiting f_same : Addr} {fdN fd_request fd_preempt fd_release fd_holders fd_waiting fd_same : FuncData} (N_PreemptLine : NF P w K mg base "PreemptLine" C2 3 fN fdN ["self", "units"] (d_init C2)) (M2_request : MF P w K mg base C2 "request" 8 f_request fd_request ["self", "process", "rank"] (d_request C2)) (M2_preempt : MF P w K mg base C2 "preempt" 6 f_preempt fd_preempt ["self", "process", "rank", "victims"] (d_Ppreempt C2)) (M2_release : MF P w K mg base C2 "release" 6 f_release fd_release ["self", "process"] (d_release C2 XH (svR 1))) (M2_holders : MF P w K mg base C2 "holders" 3 f_holders fd_holders ["self"] (d_holders C2)) (M2_waiting : MF P w K mg base C2 "waiting" 5 f_waiting fd_waiting ["self"] (d_waiting C2 (svR 1))) (G_law_same : GF P w K mg base "_law_same" 1 f_same fd_same ["_law_actual", "_law_expected"] d_law_same) : FnD P w K mg base 10 f fd ["_law_shift"] (d_case) := by
  refine Dl.Fun.dok F sc_law_fourth_case _ (fun cdv A outer s H E B hp =>
      (dss_cons (ds_setLc (i := 1) (fin := finD) finD_ok rfl sc_law_fourth_case.nd rfl rfl (sw_true rfl rfl rfl (by decide +kernel)) (di_range1 rfl T.b_range (da_cons (de_int) da_nil)) (blkOk_by (own := [("_law_place", 5)]) (N := N_law_fourth_case) (sc := defScope s_law_fourth_case) (by decide +kernel)) (fun _ _ _ _ _ => pg_name (i := 5) sc_law_fourth_case.nd rfl (by first | exact Or.inl rfl | exact Or.inr rfl)) (dgw_name (i := 5) (by decide)) (fun _ _ _ _ _ => dts_nil) (fun _ _ _ _ _ => de_op opd_mod (de_op opd_add (de_var (pv 5)) (de_var (pv 0))) (de_int)))
      (dss_cons (ds_set (i := 2) sc_law_fourth_case.nd rfl (by first | exact Or.inl rfl | exact Or.inr rfl) (de_nf N_PreemptLine B.hr B.gd B.tk rfl (da_cons (de_int) da_nil)))
      (dss_cons (ds_set (i := 3) sc_law_fourth_case.nd rfl (by first | exact Or.inl rfl | exact Or.inr rfl) (de_lst (da_cons (de_mf (de_var (pv 2)) M2_request B.hr B.gd B.tk (da_cons (de_ix (de_var (pv 1)) (de_int) (by intro _ _; rfl)) (da_cons (de_int) da_nil))) (da_cons (de_mf (de_var (pv 2)) M2_request B.hr B.gd B.tk (da_cons (de_ix (de_var (pv 1)) (de_int) (by intro _ _; rfl)) (da_cons (de_int) da_nil))) (da_cons (de_mf (de_var (pv 2)) M2_preempt B.hr B.gd B.tk (da_cons (de_ix (de_var (pv 1)) (de_int) (by intro _ _; rfl)) (da_cons (de_int) (da_cons (de_tup (da_cons (de_ix (de_var (pv 1)) (de_int) (by intro _ _; rfl)) (da_cons (de_ix (de_var (pv 1)) (de_int) (by intro _ _; rfl)) da_nil))) da_nil)))) (da_cons (de_mf0 (de_var (pv 2)) M2_holders B.hr B.gd B.tk) da_nil))))))
      (dss_cons (ds_set (i := 3) sc_law_fourth_case.nd rfl (by first | exact Or.inl rfl | exact Or.inr rfl) (de_op opd_add (de_var (pv 3)) (de_lst (da_cons (de_mf0 (de_var (pv 2)) M2_waiting B.hr B.gd B.tk) (da_cons (de_mf (de_var (pv 2)) M2_preempt B.hr B.gd B.tk (da_cons (de_ix (de_var (pv 1)) (de_int) (by intro _ _; rfl)) (da_cons (de_int) (da_cons (de_tup (da_cons (de_ix (de_var (pv 1)) (de_int) (by intro _ _; rfl)) (da_cons (de_ix (de_var (pv 1)) (de_int) (by intro _ _; rfl)) da_nil))) da_nil)))) (da_cons (de_mf (de_var (pv 2)) M2_preempt B.hr B.gd B.tk (da_cons (de_ix (de_var (pv 1)) (de_int) (by intro _ _; rfl)) (da_cons (de_int) (da_cons (de_tup (da_cons (de_ix (de_var (pv 1)) (de_int) (by intro _ _; rfl)) da_nil)) da_nil)))) da_nil))))))
      (dss_cons (ds_set (i := 3) sc_law_fourth_case.nd rfl (by first | exact Or.inl rfl | exact Or.inr rfl) (de_op opd_add (de_var (pv 3)) (de_lst (da_cons (de_mf (de_var (pv 2)) M2_preempt B.hr B.gd B.tk (da_cons (de_ix (de_var (pv 1)) (de_int) (by intro _ _; rfl)) (da_cons (de_int) (da_cons (de_tup (da_cons (de_ix (de_var (pv 1)) (de_int) (by intro _ _; rfl)) da_nil)) da_nil)))) (da_cons (de_mf0 (de_var (pv 2)) M2_holders B.hr B.gd B.tk) (da_cons (de_mf0 (de_var (pv 2)) M2_waiting B.hr B.gd B.tk) (da_cons (de_mf (de_var (pv 2)) M2_release B.hr B.gd B.tk (da_cons (de_ix (de_var (pv 1)) (de_int) (by intro _ _; rfl)) da_nil)) (da_cons (de_mf0 (de_var (pv 2)) M2_holders B.hr B.gd B.tk) da_nil))))))))
      (dss_cons (ds_set (i := 4) sc_law_fourth_case.nd rfl (by first | exact Or.inl rfl | exact Or.inr rfl) (de_lst (da_cons (de_bl) (da_cons (de_bl) (da_cons (de_ix (de_var (pv 1)) (de_int) (by intro _ _; rfl)) (da_cons (de_tup (da_cons (de_tup (da_cons (de_int) (da_cons (de_ix (de_var (pv 1)) (de_int) (by intro _ _; rfl)) da_nil))) (da_cons (de_tup (da_cons (de_int) (da_cons (de_ix (de_var (pv 1)) (de_int) (by intro _ _; rfl)) da_nil))) da_nil))) (da_cons (de_tup (da_cons (de_tup (da_cons (de_int) (da_cons (de_ix (de_var (pv 1)) (de_int) (by intro _ _; rfl)) da_nil))) da_nil)) (da_cons (de_non) (da_cons (de_non) (da_cons (de_ix (de_var (pv 1)) (de_int) (by intro _ _; rfl)) (da_cons (de_tup (da_cons (de_tup (da_cons (de_int) (da_cons (de_ix (de_var (pv 1)) (de_int) (by intro _ _; rfl)) da_nil))) (da_cons (de_tup (da_cons (de_int) (da_cons (de_ix (de_var (pv 1)) (de_int) (by intro _ _; rfl)) da_nil))) da_nil))) da_nil)))))))))))
      (dss_one (ds_ret (de_gf G_law_same B.hr B.gd B.tk rfl (da_cons (de_var (pv 3)) (da_cons (de_op opd_add (de_var (pv 4)) (de_lst (da_cons (de_tup (da_cons (de_tup (da_cons (de_int) (da_cons (de_ix (de_var (pv 1)) (de_int) (by intro _ _; rfl)) da_nil))) (da_cons (de_tup (da_cons (de_int) (da_cons (de_ix (de_var (pv 1)) (de_int) (by intro _ _; rfl)) da_nil))) da_nil))) (da_cons (de_ix (de_var (pv 1)) (de_int) (by intro _ _; rfl)) (da_cons (de_tup (da_cons (de_tup (da_cons (de_int) (da_cons (de_ix (de_var (pv 1)) (de_int) (by intro _ _; rfl)) da_nil))) (da_cons (de_tup (da_cons (de_int) (da_cons (de_ix (de_var (pv 1)) (de_int) (by intro _ _; rfl)) da_nil))) da_nil))) da_nil))))) da_nil)))))))))))) (fun ys m F P h => ?_)
  obtain ⟨s, rfl, s0, s5, h⟩ := h
  refine ⟨rfl, ?_⟩
  have hs : s = 0 ∨ s = 1 ∨ s = 2 ∨ s = 3 ∨ s = 4 ∨ s = 5 := by omega
  clear s0 s5
  rcases hs with rfl | rfl | rfl | rfl | rfl | rfl
  · refine ⟨6, rfl, by decide, by decide, ?_⟩
    refine lc_rngE (fun i => .int (((0 + (i : Int)) + 0) % 6)) [.int 0, .int 1, .int 2, .int 3, .int 4, .int 5] (Nat.le_of_ble_eq_true rfl) rfl (fun i M hi hM C' N' hC => iteT ⟨_, rfl, _, rfl, (by decide : (0 : Int) < 6), hC M Mle.refl⟩) fun m0 hm0 => ?_
    refine fun a dx na => c_init (by decide) mu_same fun p m1 A1 => ⟨rfl, ?_⟩
    obtain ⟨dx1, ho1⟩ := A1.ob
    refine ⟨_, rfl, a, dx1, _, rfl, ho1, fl_no _ _ (by decide +kernel) (by decide +kernel), ?_⟩
    refine ⟨_, rfl, 0, _, .d (.int 0), rfl, rfl, at_nat (n := 0) rfl, ?_⟩
    refine c_req A1 (i := 0) (k := 9) (rs' := ([⟨9, 0, true⟩] : List Rq)) (b := true) rfl rfl (fun m2 hm2 A2 => ?_)
    obtain ⟨dx2, ho2⟩ := A2.ob
    refine ⟨_, rfl, a, dx2, _, rfl, ho2, fl_no _ _ (by decide +kernel) (by decide +kernel), ?_⟩
    refine ⟨_, rfl, 1, _, .d (.int 1), rfl, rfl, at_nat (n := 1) rfl, ?_⟩
    refine c_req A2 (i := 1) (k := 9) (rs' := ([⟨9, 0, true⟩, ⟨9, 1, true⟩] : List Rq)) (b := true) rfl rfl (fun m3 hm3 A3 => ?_)
    obtain ⟨dx3, ho3⟩ := A3.ob
    refine ⟨_, rfl, a, dx3, _, rfl, ho3, fl_no _ _ (by decide +kernel) (by decide +kernel), ?_⟩
    refine ⟨_, rfl, 1, _, .d (.int 1), rfl, rfl, at_nat (n := 1) rfl, ?_⟩
    refine ⟨_, rfl, 0, _, .d (.int 0), rfl, rfl, at_nat (n := 0) rfl, ?_⟩
    refine ⟨_, rfl, 1, _, .d (.int 1), rfl, rfl, at_nat (n := 1) rfl, ?_⟩
    refine ⟨Nat.le_of_ble_eq_true rfl, mkT_l (ds := [.int 0, .int 1]) rfl ?_⟩
    refine c_pre A3 (i := 1) (k := 3) (vs := [0, 1]) (rs' := ([⟨9, 0, true⟩, ⟨9, 1, false⟩, ⟨3, 1, true⟩] : List Rq)) (v := 1) (by first | rfl | kernel_rfl) (fun m4 hm4 A4 => ?_)
    obtain ⟨dx4, ho4⟩ := A4.ob
    refine ⟨_, rfl, a, dx4, _, rfl, ho4, fl_no _ _ (by decide +kernel) (by decide +kernel), ?_⟩
    refine c_hold A4 (L := [.tuple [.int 9, .int 0], .tuple [.int 3, .int 1]]) rfl (fun m5 hm5 A5 => ?_)
    refine ⟨Nat.le_of_ble_eq_true rfl, [.bool true, .bool true, .int 1, .tuple [.tuple [.int 9, .int 0], .tuple [.int 3, .int 1]]], rfl, ?_⟩
    refine ⟨_, rfl, ?_⟩
    obtain ⟨dx5, ho5⟩ := A5.ob
    refine ⟨_, rfl, a, dx5, _, rfl, ho5, fl_no _ _ (by decide +kernel) (by decide +kernel), ?_⟩
    refine c_wait A5 (L := [.tuple [.int 9, .int 1]]) (wait_c (sv_c (I := [1]) (L := [(9, 1)]) (by decide) (by decide) rfl) rfl) (fun m6 hm6 A6 => ?_)
    obtain ⟨dx6, ho6⟩ := A6.ob
    refine ⟨_, rfl, a, dx6, _, rfl, ho6, fl_no _ _ (by decide +kernel) (by decide +kernel), ?_⟩
    refine ⟨_, rfl, 2, _, .d (.int 2), rfl, rfl, at_nat (n := 2) rfl, ?_⟩
    refine ⟨_, rfl, 0, _, .d (.int 0), rfl, rfl, at_nat (n := 0) rfl, ?_⟩
    refine ⟨_, rfl, 1, _, .d (.int 1), rfl, rfl, at_nat (n := 1) rfl, ?_⟩
    refine ⟨Nat.le_of_ble_eq_true rfl, mkT_l (ds := [.int 0, .int 1]) rfl ?_⟩
    refine c_pre0 A6 (i := 2) (k := 9) (vs := [0, 1]) (by first | rfl | kernel_rfl) (fun m7 hm7 A7 => ?_)
    obtain ⟨dx7, ho7⟩ := A7.ob
    refine ⟨_, rfl, a, dx7, _, rfl, ho7, fl_no _ _ (by decide +kernel) (by decide +kernel), ?_⟩
    refine ⟨_, rfl, 2, _, .d (.int 2), rfl, rfl, at_nat (n := 2) rfl, ?_⟩
    refine ⟨_, rfl, 1, _, .d (.int 1), rfl, rfl, at_nat (n := 1) rfl, ?_⟩
    refine ⟨Nat.le_of_ble_eq_true rfl, mkT_l (ds := [.int 1]) rfl ?_⟩
    refine c_pre0 A7 (i := 2) (k := 3) (vs := [1]) (by first | rfl | kernel_rfl) (fun m8 hm8 A8 => ?_)
    refine ⟨Nat.le_of_ble_eq_true rfl, [.tuple [.tuple [.int 9, .int 1]], .none, .none], rfl, ?_⟩
    refine ⟨_, _, [.bool true, .bool true, .int 1, .tuple [.tuple [.int 9, .int 0], .tuple [.int 3, .int 1]], .tuple [.tuple [.int 9, .int 1]], .none, .none], rfl, rfl, Nat.le_of_ble_eq_true rfl, rfl, ?_⟩
    refine ⟨_, rfl, ?_⟩
    obtain ⟨dx8, ho8⟩ := A8.ob
    refine ⟨_, rfl, a, dx8, _, rfl, ho8, fl_no _ _ (by decide +kernel) (by decide +kernel), ?_⟩
    refine ⟨_, rfl, 2, _, .d (.int 2), rfl, rfl, at_nat (n := 2) rfl, ?_⟩
    refine ⟨_, rfl, 1, _, .d (.int 1), rfl, rfl, at_nat (n := 1) rfl, ?_⟩
    refine ⟨Nat.le_of_ble_eq_true rfl, mkT_l (ds := [.int 1]) rfl ?_⟩
    refine c_pre A8 (i := 2) (k := 2) (vs := [1]) (rs' := ([⟨9, 0, true⟩, ⟨9, 1, false⟩, ⟨3, 1, false⟩, ⟨2, 2, true⟩] : List Rq)) (v := 1) (by first | rfl | kernel_rfl) (fun m9 hm9 A9 => ?_)
    obtain ⟨dx9, ho9⟩ := A9.ob
    refine ⟨_, rfl, a, dx9, _, rfl, ho9, fl_no _ _ (by decide +kernel) (by decide +kernel), ?_⟩
    refine c_hold A9 (L := [.tuple [.int 9, .int 0], .tuple [.int 2, .int 2]]) rfl (fun m10 hm10 A10 => ?_)
    obtain ⟨dx10, ho10⟩ := A10.ob
    refine ⟨_, rfl, a, dx10, _, rfl, ho10, fl_no _ _ (by decide +kernel) (by decide +kernel), ?_⟩
    refine c_wait A10 (L := [.tuple [.int 3, .int 1], .tuple [.int 9, .int 1]]) (wait_c (sv_c (I := [2, 1]) (L := [(3, 2), (9, 1)]) (by decide) (by decide) rfl) rfl) (fun m11 hm11 A11 => ?_)
    obtain ⟨dx11, ho11⟩ := A11.ob
    refine ⟨_, rfl, a, dx11, _, rfl, ho11, fl_no _ _ (by decide +kernel) (by decide +kernel), ?_⟩
    refine ⟨_, rfl, 2, _, .d (.int 2), rfl, rfl, at_nat (n := 2) rfl, ?_⟩
    refine c_rel A11 (i := 2) (rs' := ([⟨9, 0, true⟩, ⟨9, 1, false⟩, ⟨3, 1, true⟩] : List Rq)) (d := .int 1) (rel_c (j := 3) rfl (sv_c (I := [2, 1]) (L := [(3, 2), (9, 1)]) (by decide) (by decide) rfl) rfl) (fun m12 hm12 A12 => ?_)
    obtain ⟨dx12, ho12⟩ := A12.ob
    refine ⟨_, rfl, a, dx12, _, rfl, ho12, fl_no _ _ (by decide +kernel) (by decide +kernel), ?_⟩
    refine c_hold A12 (L := [.tuple [.int 9, .int 0], .tuple [.int 3, .int 1]]) rfl (fun m13 hm13 A13 => ?_)
    refine ⟨Nat.le_of_ble_eq_true rfl, [.int 1, .tuple [.tuple [.int 9, .int 0], .tuple [.int 2, .int 2]], .tuple [.tuple [.int 3, .int 1], .tuple [.int 9, .int 1]], .int 1, .tuple [.tuple [.int 9, .int 0], .tuple [.int 3, .int 1]]], rfl, ?_⟩
    refine ⟨_, _, [.bool true, .bool true, .int 1, .tuple [.tuple [.int 9, .int 0], .tuple [.int 3, .int 1]], .tuple [.tuple [.int 9, .int 1]], .none, .none, .int 1, .tuple [.tuple [.int 9, .int 0], .tuple [.int 2, .int 2]], .tuple [.tuple [.int 3, .int 1], .tuple [.int 9, .int 1]], .int 1, .tuple [.tuple [.int 9, .int 0], .tuple [.int 3, .int 1]]], rfl, rfl, Nat.le_of_ble_eq_true rfl, rfl, ?_⟩
    refine ⟨_, rfl, 1, _, .d (.int 1), rfl, rfl, at_nat (n := 1) rfl, ?_⟩
    refine ⟨_, rfl, 0, _, .d (.int 0), rfl, rfl, at_nat (n := 0) rfl, ?_⟩
    refine ⟨Nat.le_of_ble_eq_true rfl, mkT_l (ds := [.int 9, .int 0]) rfl ?_⟩
    refine ⟨_, rfl, 1, _, .d (.int 1), rfl, rfl, at_nat (n := 1) rfl, ?_⟩
    refine ⟨Nat.le_of_ble_eq_true rfl, mkT_l (ds := [.int 3, .int 1]) rfl ?_⟩
    refine ⟨Nat.le_of_ble_eq_true rfl, mkT_l (ds := [.tuple [.int 9, .int 0], .tuple [.int 3, .int 1]]) rfl ?_⟩
    refine ⟨_, rfl, 1, _, .d (.int 1), rfl, rfl, at_nat (n := 1) rfl, ?_⟩
    refine ⟨Nat.le_of_ble_eq_true rfl, mkT_l (ds := [.int 9, .int 1]) rfl ?_⟩
    refine ⟨Nat.le_of_ble_eq_true rfl, mkT_l (ds := [.tuple [.int 9, .int 1]]) rfl ?_⟩
    refine ⟨_, rfl, 1, _, .d (.int 1), rfl, rfl, at_nat (n := 1) rfl, ?_⟩
    refine ⟨_, rfl, 0, _, .d (.int 0), rfl, rfl, at_nat (n := 0) rfl, ?_⟩
    refine ⟨Nat.le_of_ble_eq_true rfl, mkT_l (ds := [.int 9, .int 0]) rfl ?_⟩
    refine ⟨_, rfl, 2, _, .d (.int 2), rfl, rfl, at_nat (n := 2) rfl, ?_⟩
    refine ⟨Nat.le_of_ble_eq_true rfl, mkT_l (ds := [.int 2, .int 2]) rfl ?_⟩
    refine ⟨Nat.le_of_ble_eq_true rfl, mkT_l (ds := [.tuple [.int 9, .int 0], .tuple [.int 2, .int 2]]) rfl ?_⟩
    refine ⟨Nat.le_of_ble_eq_true rfl, [.bool true, .bool true, .int 1, .tuple [.tuple [.int 9, .int 0], .tuple [.int 3, .int 1]], .tuple [.tuple [.int 9, .int 1]], .none, .none, .int 1, .tuple [.tuple [.int 9, .int 0], .tuple [.int 2, .int 2]]], rfl, ?_⟩
    refine ⟨_, rfl, ?_⟩
    refine ⟨_, rfl, ?_⟩
    refine ⟨_, rfl, 1, _, .d (.int 1), rfl, rfl, at_nat (n := 1) rfl, ?_⟩
    refine ⟨Nat.le_of_ble_eq_true rfl, mkT_l (ds := [.int 3, .int 1]) rfl ?_⟩
    refine ⟨_, rfl, 1, _, .d (.int 1), rfl, rfl, at_nat (n := 1) rfl, ?_⟩
    refine ⟨Nat.le_of_ble_eq_true rfl, mkT_l (ds := [.int 9, .int 1]) rfl ?_⟩
    refine ⟨Nat.le_of_ble_eq_true rfl, mkT_l (ds := [.tuple [.int 3, .int 1], .tuple [.int 9, .int 1]]) rfl ?_⟩
    refine ⟨_, rfl, 1, _, .d (.int 1), rfl, rfl, at_nat (n := 1) rfl, ?_⟩
    refine ⟨_, rfl, 0, _, .d (.int 0), rfl, rfl, at_nat (n := 0) rfl, ?_⟩
    refine ⟨Nat.le_of_ble_eq_true rfl, mkT_l (ds := [.int 9, .int 0]) rfl ?_⟩
    refine ⟨_, rfl, 1, _, .d (.int 1), rfl, rfl, at_nat (n := 1) rfl, ?_⟩
    refine ⟨Nat.le_of_ble_eq_true rfl, mkT_l (ds := [.int 3, .int 1]) rfl ?_⟩
    refine ⟨Nat.le_of_ble_eq_true rfl, mkT_l (ds := [.tuple [.int 9, .int 0], .tuple [.int 3, .int 1]]) rfl ?_⟩
    refine ⟨Nat.le_of_ble_eq_true rfl, [.tuple [.tuple [.int 3, .int 1], .tuple [.int 9, .int 1]], .int 1, .tuple [.tuple [.int 9, .int 0], .tuple [.int 3, .int 1]]], rfl, ?_⟩
    refine ⟨_, _, [.bool true, .bool true, .int 1, .tuple [.tuple [.int 9, .int 0], .tuple [.int 3, .int 1]], .tuple [.tuple [.int 9, .int 1]], .none, .none, .int 1, .tuple [.tuple [.int 9, .int 0], .tuple [.int 2, .int 2]], .tuple [.tuple [.int 3, .int 1], .tuple [.int 9, .int 1]], .int 1, .tuple [.tuple [.int 9, .int 0], .tuple [.int 3, .int 1]]], rfl, rfl, Nat.le_of_ble_eq_true rfl, rfl, ?_⟩
    exact ⟨.list [.bool true, .bool true, .int 1, .tuple [.tuple [.int 9, .int 0], .tuple [.int 3, .int 1]], .tuple [.tuple [.int 9, .int 1]], .none, .none, .int 1, .tuple [.tuple [.int 9, .int 0], .tuple [.int 2, .int 2]], .tuple [.tuple [.int 3, .int 1], .tuple [.int 9, .int 1]], .int 1, .tuple [.tuple [.int 9, .int 0], .tuple [.int 3, .int 1]]], rfl, ⟨by decide +kernel, by decide +kernel, by decide +kernel, by decide +kernel⟩, h _⟩
  · refine ⟨6, rfl, by decide, by decide, ?_⟩
    refine lc_rngE (fun i => .int (((0 + (i : Int)) + 1) % 6)) [.int 1, .int 2, .int 3, .int 4, .int 5, .int 0] (Nat.le_of_ble_eq_true rfl) rfl (fun i M hi hM C' N' hC => iteT ⟨_, rfl, _, rfl, (by decide : (0 : Int) < 6), hC M Mle.refl⟩) fun m0 hm0 => ?_
    refine fun a dx na => c_init (by decide) mu_same fun p m1 A1 => ⟨rfl, ?_⟩
    obtain ⟨dx1, ho1⟩ := A1.ob
    refine ⟨_, rfl, a, dx1, _, rfl, ho1, fl_no _ _ (by decide +kernel) (by decide +kernel), ?_⟩
    refine ⟨_, rfl, 0, _, .d (.int 1), rfl, rfl, at_nat (n := 0) rfl, ?_⟩
    refine c_req A1 (i := 1) (k := 9) (rs' := ([⟨9, 1, true⟩] : List Rq)) (b := true) rfl rfl (fun m2 hm2 A2 => ?_)
    obtain ⟨dx2, ho2⟩ := A2.ob
    refine ⟨_, rfl, a, dx2, _, rfl, ho2, fl_no _ _ (by decide +kernel) (by decide +kernel), ?_⟩
    refine ⟨_, rfl, 1, _, .d (.int 2), rfl, rfl, at_nat (n := 1) rfl, ?_⟩
    refine c_req A2 (i := 2) (k := 9) (rs' := ([⟨9, 1, true⟩, ⟨9, 2, true⟩] : List Rq)) (b := true) rfl rfl (fun m3 hm3 A3 => ?_)
    obtain ⟨dx3, ho3⟩ := A3.ob
    refine ⟨_, rfl, a, dx3, _, rfl, ho3, fl_no _ _ (by decide +kernel) (by decide +kernel), ?_⟩
    refine ⟨_, rfl, 1, _, .d (.int 2), rfl, rfl, at_nat (n := 1) rfl, ?_⟩
    refine ⟨_, rfl, 0, _, .d (.int 1), rfl, rfl, at_nat (n := 0) rfl, ?_⟩
    refine ⟨_, rfl, 1, _, .d (.int 2), rfl, rfl, at_nat (n := 1) rfl, ?_⟩
    refine ⟨Nat.le_of_ble_eq_true rfl, mkT_l (ds := [.int 1, .int 2]) rfl ?_⟩
    refine c_pre A3 (i := 2) (k := 3) (vs := [1, 2]) (rs' := ([⟨9, 1, true⟩, ⟨9, 2, false⟩, ⟨3, 2, true⟩] : List Rq)) (v := 2) (by first | rfl | kernel_rfl) (fun m4 hm4 A4 => ?_)
    obtain ⟨dx4, ho4⟩ := A4.ob
    refine ⟨_, rfl, a, dx4, _, rfl, ho4, fl_no _ _ (by decide +kernel) (by decide +kernel), ?_⟩
    refine c_hold A4 (L := [.tuple [.int 9, .int 1], .tuple [.int 3, .int 2]]) rfl (fun m5 hm5 A5 => ?_)
    refine ⟨Nat.le_of_ble_eq_true rfl, [.bool true, .bool true, .int 2, .tuple [.tuple [.int 9, .int 1], .tuple [.int 3, .int 2]]], rfl, ?_⟩
    refine ⟨_, rfl, ?_⟩
    obtain ⟨dx5, ho5⟩ := A5.ob
    refine ⟨_, rfl, a, dx5, _, rfl, ho5, fl_no _ _ (by decide +kernel) (by decide +kernel), ?_⟩
    refine c_wait A5 (L := [.tuple [.int 9, .int 2]]) (wait_c (sv_c (I := [1]) (L := [(9, 1)]) (by decide) (by decide) rfl) rfl) (fun m6 hm6 A6 => ?_)
    obtain ⟨dx6, ho6⟩ := A6.ob
    refine ⟨_, rfl, a, dx6, _, rfl, ho6, fl_no _ _ (by decide +kernel) (by decide +kernel), ?_⟩
    refine ⟨_, rfl, 2, _, .d (.int 3), rfl, rfl, at_nat (n := 2) rfl, ?_⟩
    refine ⟨_, rfl, 0, _, .d (.int 1), rfl, rfl, at_nat (n := 0) rfl, ?_⟩
    refine ⟨_, rfl, 1, _, .d (.int 2), rfl, rfl, at_nat (n := 1) rfl, ?_⟩
    refine ⟨Nat.le_of_ble_eq_true rfl, mkT_l (ds := [.int 1, .int 2]) rfl ?_⟩
    refine c_pre0 A6 (i := 3) (k := 9) (vs := [1, 2]) (by first | rfl | kernel_rfl) (fun m7 hm7 A7 => ?_)
    obtain ⟨dx7, ho7⟩ := A7.ob
    refine ⟨_, rfl, a, dx7, _, rfl, ho7, fl_no _ _ (by decide +kernel) (by decide +kernel), ?_⟩
    refine ⟨_, rfl, 2, _, .d (.int 3), rfl, rfl, at_nat (n := 2) rfl, ?_⟩
    refine ⟨_, rfl, 1, _, .d (.int 2), rfl, rfl, at_nat (n := 1) rfl, ?_⟩
    refine ⟨Nat.le_of_ble_eq_true rfl, mkT_l (ds := [.int 2]) rfl ?_⟩
    refine c_pre0 A7 (i := 3) (k := 3) (vs := [2]) (by first | rfl | kernel_rfl) (fun m8 hm8 A8 => ?_)
    refine ⟨Nat.le_of_ble_eq_true rfl, [.tuple [.tuple [.int 9, .int 2]], .none, .none], rfl, ?_⟩
    refine ⟨_, _, [.bool true, .bool true, .int 2, .tuple [.tuple [.int 9, .int 1], .tuple [.int 3, .int 2]], .tuple [.tuple [.int 9, .int 2]], .none, .none], rfl, rfl, Nat.le_of_ble_eq_true rfl, rfl, ?_⟩
    refine ⟨_, rfl, ?_⟩
    obtain ⟨dx8, ho8⟩ := A8.ob
    refine ⟨_, rfl, a, dx8, _, rfl, ho8, fl_no _ _ (by decide +kernel) (by decide +kernel), ?_⟩
    refine ⟨_, rfl, 2, _, .d (.int 3), rfl, rfl, at_nat (n := 2) rfl, ?_⟩
    refine ⟨_, rfl, 1, _, .d (.int 2), rfl, rfl, at_nat (n := 1) rfl, ?_⟩
    refine ⟨Nat.le_of_ble_eq_true rfl, mkT_l (ds := [.int 2]) rfl ?_⟩
    refine c_pre A8 (i := 3) (k := 2) (vs := [2]) (rs' := ([⟨9, 1, true⟩, ⟨9, 2, false⟩, ⟨3, 2, false⟩, ⟨2, 3, true⟩] : List Rq)) (v := 2) (by first | rfl | kernel_rfl) (fun m9 hm9 A9 => ?_)
    obtain ⟨dx9, ho9⟩ := A9.ob
    refine ⟨_, rfl, a, dx9, _, rfl, ho9, fl_no _ _ (by decide +kernel) (by decide +kernel), ?_⟩
    refine c_hold A9 (L := [.tuple [.int 9, .int 1], .tuple [.int 2, .int 3]]) rfl (fun m10 hm10 A10 => ?_)
    obtain ⟨dx10, ho10⟩ := A10.ob
    refine ⟨_, rfl, a, dx10, _, rfl, ho10, fl_no _ _ (by decide +kernel) (by decide +kernel), ?_⟩
    refine c_wait A10 (L := [.tuple [.int 3, .int 2], .tuple [.int 9, .int 2]]) (wait_c (sv_c (I := [2, 1]) (L := [(3, 2), (9, 1)]) (by decide) (by decide) rfl) rfl) (fun m11 hm11 A11 => ?_)
    obtain ⟨dx11, ho11⟩ := A11.ob
    refine ⟨_, rfl, a, dx11, _, rfl, ho11, fl_no _ _ (by decide +kernel) (by decide +kernel), ?_⟩
    refine ⟨_, rfl, 2, _, .d (.int 3), rfl, rfl, at_nat (n := 2) rfl, ?_⟩
    refine c_rel A11 (i := 3) (rs' := ([⟨9, 1, true⟩, ⟨9, 2, false⟩, ⟨3, 2, true⟩] : List Rq)) (d := .int 2) (rel_c (j := 3) rfl (sv_c (I := [2, 1]) (L := [(3, 2), (9, 1)]) (by decide) (by decide) rfl) rfl) (fun m12 hm12 A12 => ?_)
    obtain ⟨dx12, ho12⟩ := A12.ob
    refine ⟨_, rfl, a, dx12, _, rfl, ho12, fl_no _ _ (by decide +kernel) (by decide +kernel), ?_⟩
    refine c_hold A12 (L := [.tuple [.int 9, .int 1], .tuple [.int 3, .int 2]]) rfl (fun m13 hm13 A13 => ?_)
    refine ⟨Nat.le_of_ble_eq_true rfl, [.int 2, .tuple [.tuple [.int 9, .int 1], .tuple [.int 2, .int 3]], .tuple [.tuple [.int 3, .int 2], .tuple [.int 9, .int 2]], .int 2, .tuple [.tuple [.int 9, .int 1], .tuple [.int 3, .int 2]]], rfl, ?_⟩
    refine ⟨_, _, [.bool true, .bool true, .int 2, .tuple [.tuple [.int 9, .int 1], .tuple [.int 3, .int 2]], .tuple [.tuple [.int 9, .int 2]], .none, .none, .int 2, .tuple [.tuple [.int 9, .int 1], .tuple [.int 2, .int 3]], .tuple [.tuple [.int 3, .int 2], .tuple [.int 9, .int 2]], .int 2, .tuple [.tuple [.int 9, .int 1], .tuple [.int 3, .int 2]]], rfl, rfl, Nat.le_of_ble_eq_true rfl, rfl, ?_⟩
    refine ⟨_, rfl, 1, _, .d (.int 2), rfl, rfl, at_nat (n := 1) rfl, ?_⟩
    refine ⟨_, rfl, 0, _, .d (.int 1), rfl, rfl, at_nat (n := 0) rfl, ?_⟩
    refine ⟨Nat.le_of_ble_eq_true rfl, mkT_l (ds := [.int 9, .int 1]) rfl ?_⟩
    refine ⟨_, rfl, 1, _, .d (.int 2), rfl, rfl, at_nat (n := 1) rfl, ?_⟩
    refine ⟨Nat.le_of_ble_eq_true rfl, mkT_l (ds := [.int 3, .int 2]) rfl ?_⟩
    refine ⟨Nat.le_of_ble_eq_true rfl, mkT_l (ds := [.tuple [.int 9, .int 1], .tuple [.int 3, .int 2]]) rfl ?_⟩
    refine ⟨_, rfl, 1, _, .d (.int 2), rfl, rfl, at_nat (n := 1) rfl, ?_⟩
    refine ⟨Nat.le_of_ble_eq_true rfl, mkT_l (ds := [.int 9, .int 2]) rfl ?_⟩
    refine ⟨Nat.le_of_ble_eq_true rfl, mkT_l (ds := [.tuple [.int 9, .int 2]]) rfl ?_⟩
    refine ⟨_, rfl, 1, _, .d (.int 2), rfl, rfl, at_nat (n := 1) rfl, ?_⟩
    refine ⟨_, rfl, 0, _, .d (.int 1), rfl, rfl, at_nat (n := 0) rfl, ?_⟩
    refine ⟨Nat.le_of_ble_eq_true rfl, mkT_l (ds := [.int 9, .int 1]) rfl ?_⟩
    refine ⟨_, rfl, 2, _, .d (.int 3), rfl, rfl, at_nat (n := 2) rfl, ?_⟩
    refine ⟨Nat.le_of_ble_eq_true rfl, mkT_l (ds := [.int 2, .int 3]) rfl ?_⟩
    refine ⟨Nat.le_of_ble_eq_true rfl, mkT_l (ds := [.tuple [.int 9, .int 1], .tuple [.int 2, .int 3]]) rfl ?_⟩
    refine ⟨Nat.le_of_ble_eq_true rfl, [.bool true, .bool true, .int 2, .tuple [.tuple [.int 9, .int 1], .tuple [.int 3, .int 2]], .tuple [.tuple [.int 9, .int 2]], .none, .none, .int 2, .tuple [.tuple [.int 9, .int 1], .tuple [.int 2, .int 3]]], rfl, ?_⟩
    refine ⟨_, rfl, ?_⟩
    refine ⟨_, rfl, ?_⟩
    refine ⟨_, rfl, 1, _, .d (.int 2), rfl, rfl, at_nat (n := 1) rfl, ?_⟩
    refine ⟨Nat.le_of_ble_eq_true rfl, mkT_l (ds := [.int 3, .int 2]) rfl ?_⟩
    refine ⟨_, rfl, 1, _, .d (.int 2), rfl, rfl, at_nat (n := 1) rfl, ?_⟩
    refine ⟨Nat.le_of_ble_eq_true rfl, mkT_l (ds := [.int 9, .int 2]) rfl ?_⟩
    refine ⟨Nat.le_of_ble_eq_true rfl, mkT_l (ds := [.tuple [.int 3, .int 2], .tuple [.int 9, .int 2]]) rfl ?_⟩
    refine ⟨_, rfl, 1, _, .d (.int 2), rfl, rfl, at_nat (n := 1) rfl, ?_⟩
    refine ⟨_, rfl, 0, _, .d (.int 1), rfl, rfl, at_nat (n := 0) rfl, ?_⟩
    refine ⟨Nat.le_of_ble_eq_true rfl, mkT_l (ds := [.int 9, .int 1]) rfl ?_⟩
    refine ⟨_, rfl, 1, _, .d (.int 2), rfl, rfl, at_nat (n := 1) rfl, ?_⟩
    refine ⟨Nat.le_of_ble_eq_true rfl, mkT_l (ds := [.int 3, .int 2]) rfl ?_⟩
    refine ⟨Nat.le_of_ble_eq_true rfl, mkT_l (ds := [.tuple [.int 9, .int 1], .tuple [.int 3, .int 2]]) rfl ?_⟩
    refine ⟨Nat.le_of_ble_eq_true rfl, [.tuple [.tuple [.int 3, .int 2], .tuple [.int 9, .int 2]], .int 2, .tuple [.tuple [.int 9, .int 1], .tuple [.int 3, .int 2]]], rfl, ?_⟩
    refine ⟨_, _, [.bool true, .bool true, .int 2, .tuple [.tuple [.int 9, .int 1], .tuple [.int 3, .int 2]], .tuple [.tuple [.int 9, .int 2]], .none, .none, .int 2, .tuple [.tuple [.int 9, .int 1], .tuple [.int 2, .int 3]], .tuple [.tuple [.int 3, .int 2], .tuple [.int 9, .int 2]], .int 2, .tuple [.tuple [.int 9, .int 1], .tuple [.int 3, .int 2]]], rfl, rfl, Nat.le_of_ble_eq_true rfl, rfl, ?_⟩
    exact ⟨.list [.bool true, .bool true, .int 2, .tuple [.tuple [.int 9, .int 1], .tuple [.int 3, .int 2]], .tuple [.tuple [.int 9, .int 2]], .none, .none, .int 2, .tuple [.tuple [.int 9, .int 1], .tuple [.int 2, .int 3]], .tuple [.tuple [.int 3, .int 2], .tuple [.int 9, .int 2]], .int 2, .tuple [.tuple [.int 9, .int 1], .tuple [.int 3, .int 2]]], rfl, ⟨by decide +kernel, by decide +kernel, by decide +kernel, by decide +kernel⟩, h _⟩
  · refine ⟨6, rfl, by decide, by decide, ?_⟩
    refine lc_rngE (fun i => .int (((0 + (i : Int)) + 2) % 6)) [.int 2, .int 3, .int 4, .int 5, .int 0, .int 1] (Nat.le_of_ble_eq_true rfl) rfl (fun i M hi hM C' N' hC => iteT ⟨_, rfl, _, rfl, (by decide : (0 : Int) < 6), hC M Mle.refl⟩) fun m0 hm0 => ?_
    refine fun a dx na => c_init (by decide) mu_same fun p m1 A1 => ⟨rfl, ?_⟩
    obtain ⟨dx1, ho1⟩ := A1.ob
    refine ⟨_, rfl, a, dx1, _, rfl, ho1, fl_no _ _ (by decide +kernel) (by decide +kernel), ?_⟩
    refine ⟨_, rfl, 0, _, .d (.int 2), rfl, rfl, at_nat (n := 0) rfl, ?_⟩
    refine c_req A1 (i := 2) (k := 9) (rs' := ([⟨9, 2, true⟩] : List Rq)) (b := true) rfl rfl (fun m2 hm2 A2 => ?_)
    obtain ⟨dx2, ho2⟩ := A2.ob
    refine ⟨_, rfl, a, dx2, _, rfl, ho2, fl_no _ _ (by decide +kernel) (by decide +kernel), ?_⟩
    refine ⟨_, rfl, 1, _, .d (.int 3), rfl, rfl, at_nat (n := 1) rfl, ?_⟩
    refine c_req A2 (i := 3) (k := 9) (rs' := ([⟨9, 2, true⟩, ⟨9, 3, true⟩] : List Rq)) (b := true) rfl rfl (fun m3 hm3 A3 => ?_)
    obtain ⟨dx3, ho3⟩ := A3.ob
    refine ⟨_, rfl, a, dx3, _, rfl, ho3, fl_no _ _ (by decide +kernel) (by decide +kernel), ?_⟩
    refine ⟨_, rfl, 1, _, .d (.int 3), rfl, rfl, at_nat (n := 1) rfl, ?_⟩
    refine ⟨_, rfl, 0, _, .d (.int 2), rfl, rfl, at_nat (n := 0) rfl, ?_⟩
    refine ⟨_, rfl, 1, _, .d (.int 3), rfl, rfl, at_nat (n := 1) rfl, ?_⟩
    refine ⟨Nat.le_of_ble_eq_true rfl, mkT_l (ds := [.int 2, .int 3]) rfl ?_⟩
    refine c_pre A3 (i := 3) (k := 3) (vs := [2, 3]) (rs' := ([⟨9, 2, true⟩, ⟨9, 3, false⟩, ⟨3, 3, true⟩] : List Rq)) (v := 3) (by first | rfl | kernel_rfl) (fun m4 hm4 A4 => ?_)
    obtain ⟨dx4, ho4⟩ := A4.ob
    refine ⟨_, rfl, a, dx4, _, rfl, ho4, fl_no _ _ (by decide +kernel) (by decide +kernel), ?_⟩
    refine c_hold A4 (L := [.tuple [.int 9, .int 2], .tuple [.int 3, .int 3]]) rfl (fun m5 hm5 A5 => ?_)
    refine ⟨Nat.le_of_ble_eq_true rfl, [.bool true, .bool true, .int 3, .tuple [.tuple [.int 9, .int 2], .tuple [.int 3, .int 3]]], rfl, ?_⟩
    refine ⟨_, rfl, ?_⟩
    obtain ⟨dx5, ho5⟩ := A5.ob
    refine ⟨_, rfl, a, dx5, _, rfl, ho5, fl_no _ _ (by decide +kernel) (by decide +kernel), ?_⟩
    refine c_wait A5 (L := [.tuple [.int 9, .int 3]]) (wait_c (sv_c (I := [1]) (L := [(9, 1)]) (by decide) (by decide) rfl) rfl) (fun m6 hm6 A6 => ?_)
    obtain ⟨dx6, ho6⟩ := A6.ob
    refine ⟨_, rfl, a, dx6, _, rfl, ho6, fl_no _ _ (by decide +kernel) (by decide +kernel), ?_⟩
    refine ⟨_, rfl, 2, _, .d (.int 4), rfl, rfl, at_nat (n := 2) rfl, ?_⟩
    refine ⟨_, rfl, 0, _, .d (.int 2), rfl, rfl, at_nat (n := 0) rfl, ?_⟩
    refine ⟨_, rfl, 1, _, .d (.int 3), rfl, rfl, at_nat (n := 1) rfl, ?_⟩
    refine ⟨Nat.le_of_ble_eq_true rfl, mkT_l (ds := [.int 2, .int 3]) rfl ?_⟩
    refine c_pre0 A6 (i := 4) (k := 9) (vs := [2, 3]) (by first | rfl | kernel_rfl) (fun m7 hm7 A7 => ?_)
    obtain ⟨dx7, ho7⟩ := A7.ob
    refine ⟨_, rfl, a, dx7, _, rfl, ho7, fl_no _ _ (by decide +kernel) (by decide +kernel), ?_⟩
    refine ⟨_, rfl, 2, _, .d (.int 4), rfl, rfl, at_nat (n := 2) rfl, ?_⟩
    refine ⟨_, rfl, 1, _, .d (.int 3), rfl, rfl, at_nat (n := 1) rfl, ?_⟩
    refine ⟨Nat.le_of_ble_eq_true rfl, mkT_l (ds := [.int 3]) rfl ?_⟩
    refine c_pre0 A7 (i := 4) (k := 3) (vs := [3]) (by first | rfl | kernel_rfl) (fun m8 hm8 A8 => ?_)
    refine ⟨Nat.le_of_ble_eq_true rfl, [.tuple [.tuple [.int 9, .int 3]], .none, .none], rfl, ?_⟩
    refine ⟨_, _, [.bool true, .bool true, .int 3, .tuple [.tuple [.int 9, .int 2], .tuple [.int 3, .int 3]], .tuple [.tuple [.int 9, .int 3]], .none, .none], rfl, rfl, Nat.le_of_ble_eq_true rfl, rfl, ?_⟩
    refine ⟨_, rfl, ?_⟩
    obtain ⟨dx8, ho8⟩ := A8.ob
    refine ⟨_, rfl, a, dx8, _, rfl, ho8, fl_no _ _ (by decide +kernel) (by decide +kernel), ?_⟩
    refine ⟨_, rfl, 2, _, .d (.int 4), rfl, rfl, at_nat (n := 2) rfl, ?_⟩
    refine ⟨_, rfl, 1, _, .d (.int 3), rfl, rfl, at_nat (n := 1) rfl, ?_⟩
    refine ⟨Nat.le_of_ble_eq_true rfl, mkT_l (ds := [.int 3]) rfl ?_⟩
    refine c_pre A8 (i := 4) (k := 2) (vs := [3]) (rs' := ([⟨9, 2, true⟩, ⟨9, 3, false⟩, ⟨3, 3, false⟩, ⟨2, 4, true⟩] : List Rq)) (v := 3) (by first | rfl | kernel_rfl) (fun m9 hm9 A9 => ?_)
    obtain ⟨dx9, ho9⟩ := A9.ob
    refine ⟨_, rfl, a, dx9, _, rfl, ho9, fl_no _ _ (by decide +kernel) (by decide +kernel), ?_⟩
    refine c_hold A9 (L := [.tuple [.int 9, .int 2], .tuple [.int 2, .int 4]]) rfl (fun m10 hm10 A10 => ?_)
    obtain ⟨dx10, ho10⟩ := A10.ob
    refine ⟨_, rfl, a, dx10, _, rfl, ho10, fl_no _ _ (by decide +kernel) (by decide +kernel), ?_⟩
    refine c_wait A10 (L := [.tuple [.int 3, .int 3], .tuple [.int 9, .int 3]]) (wait_c (sv_c (I := [2, 1]) (L := [(3, 2), (9, 1)]) (by decide) (by decide) rfl) rfl) (fun m11 hm11 A11 => ?_)
    obtain ⟨dx11, ho11⟩ := A11.ob
    refine ⟨_, rfl, a, dx11, _, rfl, ho11, fl_no _ _ (by decide +kernel) (by decide +kernel), ?_⟩
    refine ⟨_, rfl, 2, _, .d (.int 4), rfl, rfl, at_nat (n := 2) rfl, ?_⟩
    refine c_rel A11 (i := 4) (rs' := ([⟨9, 2, true⟩, ⟨9, 3, false⟩, ⟨3, 3, true⟩] : List Rq)) (d := .int 3) (rel_c (j := 3) rfl (sv_c (I := [2, 1]) (L := [(3, 2), (9, 1)]) (by decide) (by decide) rfl) rfl) (fun m12 hm12 A12 => ?_)
    obtain ⟨dx12, ho12⟩ := A12.ob
    refine ⟨_, rfl, a, dx12, _, rfl, ho12, fl_no _ _ (by decide +kernel) (by decide +kernel), ?_⟩
    refine c_hold A12 (L := [.tuple [.int 9, .int 2], .tuple [.int 3, .int 3]]) rfl (fun m13 hm13 A13 => ?_)
    refine ⟨Nat.le_of_ble_eq_true rfl, [.int 3, .tuple [.tuple [.int 9, .int 2], .tuple [.int 2, .int 4]], .tuple [.tuple [.int 3, .int 3], .tuple [.int 9, .int 3]], .int 3, .tuple [.tuple [.int 9, .int 2], .tuple [.int 3, .int 3]]], rfl, ?_⟩
    refine ⟨_, _, [.bool true, .bool true, .int 3, .tuple [.tuple [.int 9, .int 2], .tuple [.int 3, .int 3]], .tuple [.tuple [.int 9, .int 3]], .none, .none, .int 3, .tuple [.tuple [.int 9, .int 2], .tuple [.int 2, .int 4]], .tuple [.tuple [.int 3, .int 3], .tuple [.int 9, .int 3]], .int 3, .tuple [.tuple [.int 9, .int 2], .tuple [.int 3, .int 3]]], rfl, rfl, Nat.le_of_ble_eq_true rfl, rfl, ?_⟩
    refine ⟨_, rfl, 1, _, .d (.int 3), rfl, rfl, at_nat (n := 1) rfl, ?_⟩
    refine ⟨_, rfl, 0, _, .d (.int 2), rfl, rfl, at_nat (n := 0) rfl, ?_⟩
    refine ⟨Nat.le_of_ble_eq_true rfl, mkT_l (ds := [.int 9, .int 2]) rfl ?_⟩
    refine ⟨_, rfl, 1, _, .d (.int 3), rfl, rfl, at_nat (n := 1) rfl, ?_⟩
    refine ⟨Nat.le_of_ble_eq_true rfl, mkT_l (ds := [.int 3, .int 3]) rfl ?_⟩
    refine ⟨Nat.le_of_ble_eq_true rfl, mkT_l (ds := [.tuple [.int 9, .int 2], .tuple [.int 3, .int 3]]) rfl ?_⟩
    refine ⟨_, rfl, 1, _, .d (.int 3), rfl, rfl, at_nat (n := 1) rfl, ?_⟩
    refine ⟨Nat.le_of_ble_eq_true rfl, mkT_l (ds := [.int 9, .int 3]) rfl ?_⟩
    refine ⟨Nat.le_of_ble_eq_true rfl, mkT_l (ds := [.tuple [.int 9, .int 3]]) rfl ?_⟩
    refine ⟨_, rfl, 1, _, .d (.int 3), rfl, rfl, at_nat (n := 1) rfl, ?_⟩
    refine ⟨_, rfl, 0, _, .d (.int 2), rfl, rfl, at_nat (n := 0) rfl, ?_⟩
    refine ⟨Nat.le_of_ble_eq_true rfl, mkT_l (ds := [.int 9, .int 2]) rfl ?_⟩
    refine ⟨_, rfl, 2, _, .d (.int 4), rfl, rfl, at_nat (n := 2) rfl, ?_⟩
    refine ⟨Nat.le_of_ble_eq_true rfl, mkT_l (ds := [.int 2, .int 4]) rfl ?_⟩
    refine ⟨Nat.le_of_ble_eq_true rfl, mkT_l (ds := [.tuple [.int 9, .int 2], .tuple [.int 2, .int 4]]) rfl ?_⟩
    refine ⟨Nat.le_of_ble_eq_true rfl, [.bool true, .bool true, .int 3, .tuple [.tuple [.int 9, .int 2], .tuple [.int 3, .int 3]], .tuple [.tuple [.int 9, .int 3]], .none, .none, .int 3, .tuple [.tuple [.int 9, .int 2], .tuple [.int 2, .int 4]]], rfl, ?_⟩
    refine ⟨_, rfl, ?_⟩
    refine ⟨_, rfl, ?_⟩
    refine ⟨_, rfl, 1, _, .d (.int 3), rfl, rfl, at_nat (n := 1) rfl, ?_⟩
    refine ⟨Nat.le_of_ble_eq_true rfl, mkT_l (ds := [.int 3, .int 3]) rfl ?_⟩
    refine ⟨_, rfl, 1, _, .d (.int 3), rfl, rfl, at_nat (n := 1) rfl, ?_⟩
    refine ⟨Nat.le_of_ble_eq_true rfl, mkT_l (ds := [.int 9, .int 3]) rfl ?_⟩
    refine ⟨Nat.le_of_ble_eq_true rfl, mkT_l (ds := [.tuple [.int 3, .int 3], .tuple [.int 9, .int 3]]) rfl ?_⟩
    refine ⟨_, rfl, 1, _, .d (.int 3), rfl, rfl, at_nat (n := 1) rfl, ?_⟩
    refine ⟨_, rfl, 0, _, .d (.int 2), rfl, rfl, at_nat (n := 0) rfl, ?_⟩
    refine ⟨Nat.le_of_ble_eq_true rfl, mkT_l (ds := [.int 9, .int 2]) rfl ?_⟩
    refine ⟨_, rfl, 1, _, .d (.int 3), rfl, rfl, at_nat (n := 1) rfl, ?_⟩
    refine ⟨Nat.le_of_ble_eq_true rfl, mkT_l (ds := [.int 3, .int 3]) rfl ?_⟩
    refine ⟨Nat.le_of_ble_eq_true rfl, mkT_l (ds := [.tuple [.int 9, .int 2], .tuple [.int 3, .int 3]]) rfl ?_⟩
    refine ⟨Nat.le_of_ble_eq_true rfl, [.tuple [.tuple [.int 3, .int 3], .tuple [.int 9, .int 3]], .int 3, .tuple [.tuple [.int 9, .int 2], .tuple [.int 3, .int 3]]], rfl, ?_⟩
    refine ⟨_, _, [.bool true, .bool true, .int 3, .tuple [.tuple [.int 9, .int 2], .tuple [.int 3, .int 3]], .tuple [.tuple [.int 9, .int 3]], .none, .none, .int 3, .tuple [.tuple [.int 9, .int 2], .tuple [.int 2, .int 4]], .tuple [.tuple [.int 3, .int 3], .tuple [.int 9, .int 3]], .int 3, .tuple [.tuple [.int 9, .int 2], .tuple [.int 3, .int 3]]], rfl, rfl, Nat.le_of_ble_eq_true rfl, rfl, ?_⟩
    exact ⟨.list [.bool true, .bool true, .int 3, .tuple [.tuple [.int 9, .int 2], .tuple [.int 3, .int 3]], .tuple [.tuple [.int 9, .int 3]], .none, .none, .int 3, .tuple [.tuple [.int 9, .int 2], .tuple [.int 2, .int 4]], .tuple [.tuple [.int 3, .int 3], .tuple [.int 9, .int 3]], .int 3, .tuple [.tuple [.int 9, .int 2], .tuple [.int 3, .int 3]]], rfl, ⟨by decide +kernel, by decide +kernel, by decide +kernel, by decide +kernel⟩, h _⟩
  · refine ⟨6, rfl, by decide, by decide, ?_⟩
    refine lc_rngE (fun i => .int (((0 + (i : Int)) + 3) % 6)) [.int 3, .int 4, .int 5, .int 0, .int 1, .int 2] (Nat.le_of_ble_eq_true rfl) rfl (fun i M hi hM C' N' hC => iteT ⟨_, rfl, _, rfl, (by decide : (0 : Int) < 6), hC M Mle.refl⟩) fun m0 hm0 => ?_
    refine fun a dx na => c_init (by decide) mu_same fun p m1 A1 => ⟨rfl, ?_⟩
    obtain ⟨dx1, ho1⟩ := A1.ob
    refine ⟨_, rfl, a, dx1, _, rfl, ho1, fl_no _ _ (by decide +kernel) (by decide +kernel), ?_⟩
    refine ⟨_, rfl, 0, _, .d (.int 3), rfl, rfl, at_nat (n := 0) rfl, ?_⟩
    refine c_req A1 (i := 3) (k := 9) (rs' := ([⟨9, 3, true⟩] : List Rq)) (b := true) rfl rfl (fun m2 hm2 A2 => ?_)
    obtain ⟨dx2, ho2⟩ := A2.ob
    refine ⟨_, rfl, a, dx2, _, rfl, ho2, fl_no _ _ (by decide +kernel) (by decide +kernel), ?_⟩
    refine ⟨_, rfl, 1, _, .d (.int 4), rfl, rfl, at_nat (n := 1) rfl, ?_⟩
    refine c_req A2 (i := 4) (k := 9) (rs' := ([⟨9, 3, true⟩, ⟨9, 4, true⟩] : List Rq)) (b := true) rfl rfl (fun m3 hm3 A3 => ?_)
    obtain ⟨dx3, ho3⟩ := A3.ob
    refine ⟨_, rfl, a, dx3, _, rfl, ho3, fl_no _ _ (by decide +kernel) (by decide +kernel), ?_⟩
    refine ⟨_, rfl, 1, _, .d (.int 4), rfl, rfl, at_nat (n := 1) rfl, ?_⟩
    refine ⟨_, rfl, 0, _, .d (.int 3), rfl, rfl, at_nat (n := 0) rfl, ?_⟩
    refine ⟨_, rfl, 1, _, .d (.int 4), rfl, rfl, at_nat (n := 1) rfl, ?_⟩
    refine ⟨Nat.le_of_ble_eq_true rfl, mkT_l (ds := [.int 3, .int 4]) rfl ?_⟩
    refine c_pre A3 (i := 4) (k := 3) (vs := [3, 4]) (rs' := ([⟨9, 3, true⟩, ⟨9, 4, false⟩, ⟨3, 4, true⟩] : List Rq)) (v := 4) (by first | rfl | kernel_rfl) (fun m4 hm4 A4 => ?_)
    obtain ⟨dx4, ho4⟩ := A4.ob
    refine ⟨_, rfl, a, dx4, _, rfl, ho4, fl_no _ _ (by decide +kernel) (by decide +kernel), ?_⟩
    refine c_hold A4 (L := [.tuple [.int 9, .int 3], .tuple [.int 3, .int 4]]) rfl (fun m5 hm5 A5 => ?_)
    refine ⟨Nat.le_of_ble_eq_true rfl, [.bool true, .bool true, .int 4, .tuple [.tuple [.int 9, .int 3], .tuple [.int 3, .int 4]]], rfl, ?_⟩
    refine ⟨_, rfl, ?_⟩
    obtain ⟨dx5, ho5⟩ := A5.ob
    refine ⟨_, rfl, a, dx5, _, rfl, ho5, fl_no _ _ (by decide +kernel) (by decide +kernel), ?_⟩
    refine c_wait A5 (L := [.tuple [.int 9, .int 4]]) (wait_c (sv_c (I := [1]) (L := [(9, 1)]) (by decide) (by decide) rfl) rfl) (fun m6 hm6 A6 => ?_)
    obtain ⟨dx6, ho6⟩ := A6.ob
    refine ⟨_, rfl, a, dx6, _, rfl, ho6, fl_no _ _ (by decide +kernel) (by decide +kernel), ?_⟩
    refine ⟨_, rfl, 2, _, .d (.int 5), rfl, rfl, at_nat (n := 2) rfl, ?_⟩
    refine ⟨_, rfl, 0, _, .d (.int 3), rfl, rfl, at_nat (n := 0) rfl, ?_⟩
    refine ⟨_, rfl, 1, _, .d (.int 4), rfl, rfl, at_nat (n := 1) rfl, ?_⟩
    refine ⟨Nat.le_of_ble_eq_true rfl, mkT_l (ds := [.int 3, .int 4]) rfl ?_⟩
    refine c_pre0 A6 (i := 5) (k := 9) (vs := [3, 4]) (by first | rfl | kernel_rfl) (fun m7 hm7 A7 => ?_)
    obtain ⟨dx7, ho7⟩ := A7.ob
    refine ⟨_, rfl, a, dx7, _, rfl, ho7, fl_no _ _ (by decide +kernel) (by decide +kernel), ?_⟩
    refine ⟨_, rfl, 2, _, .d (.int 5), rfl, rfl, at_nat (n := 2) rfl, ?_⟩
    refine ⟨_, rfl, 1, _, .d (.int 4), rfl, rfl, at_nat (n := 1) rfl, ?_⟩
    refine ⟨Nat.le_of_ble_eq_true rfl, mkT_l (ds := [.int 4]) rfl ?_⟩
    refine c_pre0 A7 (i := 5) (k := 3) (vs := [4]) (by first | rfl | kernel_rfl) (fun m8 hm8 A8 => ?_)
    refine ⟨Nat.le_of_ble_eq_true rfl, [.tuple [.tuple [.int 9, .int 4]], .none, .none], rfl, ?_⟩
    refine ⟨_, _, [.bool true, .bool true, .int 4, .tuple [.tuple [.int 9, .int 3], .tuple [.int 3, .int 4]], .tuple [.tuple [.int 9, .int 4]], .none, .none], rfl, rfl, Nat.le_of_ble_eq_true rfl, rfl, ?_⟩
    refine ⟨_, rfl, ?_⟩
    obtain ⟨dx8, ho8⟩ := A8.ob
    refine ⟨_, rfl, a, dx8, _, rfl, ho8, fl_no _ _ (by decide +kernel) (by decide +kernel), ?_⟩
    refine ⟨_, rfl, 2, _, .d (.int 5), rfl, rfl, at_nat (n := 2) rfl, ?_⟩
    refine ⟨_, rfl, 1, _, .d (.int 4), rfl, rfl, at_nat (n := 1) rfl, ?_⟩
    refine ⟨Nat.le_of_ble_eq_true rfl, mkT_l (ds := [.int 4]) rfl ?_⟩
    refine c_pre A8 (i := 5) (k := 2) (vs := [4]) (rs' := ([⟨9, 3, true⟩, ⟨9, 4, false⟩, ⟨3, 4, false⟩, ⟨2, 5, true⟩] : List Rq)) (v := 4) (by first | rfl | kernel_rfl) (fun m9 hm9 A9 => ?_)
    obtain ⟨dx9, ho9⟩ := A9.ob
    refine ⟨_, rfl, a, dx9, _, rfl, ho9, fl_no _ _ (by decide +kernel) (by decide +kernel), ?_⟩
    refine c_hold A9 (L := [.tuple [.int 9, .int 3], .tuple [.int 2, .int 5]]) rfl (fun m10 hm10 A10 => ?_)
    obtain ⟨dx10, ho10⟩ := A10.ob
    refine ⟨_, rfl, a, dx10, _, rfl, ho10, fl_no _ _ (by decide +kernel) (by decide +kernel), ?_⟩
    refine c_wait A10 (L := [.tuple [.int 3, .int 4], .tuple [.int 9, .int 4]]) (wait_c (sv_c (I := [2, 1]) (L := [(3, 2), (9, 1)]) (by decide) (by decide) rfl) rfl) (fun m11 hm11 A11 => ?_)
    obtain ⟨dx11, ho11⟩ := A11.ob
    refine ⟨_, rfl, a, dx11, _, rfl, ho11, fl_no _ _ (by decide +kernel) (by decide +kernel), ?_⟩
    refine ⟨_, rfl, 2, _, .d (.int 5), rfl, rfl, at_nat (n := 2) rfl, ?_⟩
    refine c_rel A11 (i := 5) (rs' := ([⟨9, 3, true⟩, ⟨9, 4, false⟩, ⟨3, 4, true⟩] : List Rq)) (d := .int 4) (rel_c (j := 3) rfl (sv_c (I := [2, 1]) (L := [(3, 2), (9, 1)]) (by decide) (by decide) rfl) rfl) (fun m12 hm12 A12 => ?_)
    obtain ⟨dx12, ho12⟩ := A12.ob
    refine ⟨_, rfl, a, dx12, _, rfl, ho12, fl_no _ _ (by decide +kernel) (by decide +kernel), ?_⟩
    refine c_hold A12 (L := [.tuple [.int 9, .int 3], .tuple [.int 3, .int 4]]) rfl (fun m13 hm13 A13 => ?_)
    refine ⟨Nat.le_of_ble_eq_true rfl, [.int 4, .tuple [.tuple [.int 9, .int 3], .tuple [.int 2, .int 5]], .tuple [.tuple [.int 3, .int 4], .tuple [.int 9, .int 4]], .int 4, .tuple [.tuple [.int 9, .int 3], .tuple [.int 3, .int 4]]], rfl, ?_⟩
    refine ⟨_, _, [.bool true, .bool true, .int 4, .tuple [.tuple [.int 9, .int 3], .tuple [.int 3, .int 4]], .tuple [.tuple [.int 9, .int 4]], .none, .none, .int 4, .tuple [.tuple [.int 9, .int 3], .tuple [.int 2, .int 5]], .tuple [.tuple [.int 3, .int 4], .tuple [.int 9, .int 4]], .int 4, .tuple [.tuple [.int 9, .int 3], .tuple [.int 3, .int 4]]], rfl, rfl, Nat.le_of_ble_eq_true rfl, rfl, ?_⟩
    refine ⟨_, rfl, 1, _, .d (.int 4), rfl, rfl, at_nat (n := 1) rfl, ?_⟩
    refine ⟨_, rfl, 0, _, .d (.int 3), rfl, rfl, at_nat (n := 0) rfl, ?_⟩
    refine ⟨Nat.le_of_ble_eq_true rfl, mkT_l (ds := [.int 9, .int 3]) rfl ?_⟩
    refine ⟨_, rfl, 1, _, .d (.int 4), rfl, rfl, at_nat (n := 1) rfl, ?_⟩
    refine ⟨Nat.le_of_ble_eq_true rfl, mkT_l (ds := [.int 3, .int 4]) rfl ?_⟩
    refine ⟨Nat.le_of_ble_eq_true rfl, mkT_l (ds := [.tuple [.int 9, .int 3], .tuple [.int 3, .int 4]]) rfl ?_⟩
    refine ⟨_, rfl, 1, _, .d (.int 4), rfl, rfl, at_nat (n := 1) rfl, ?_⟩
    refine ⟨Nat.le_of_ble_eq_true rfl, mkT_l (ds := [.int 9, .int 4]) rfl ?_⟩
    refine ⟨Nat.le_of_ble_eq_true rfl, mkT_l (ds := [.tuple [.int 9, .int 4]]) rfl ?_⟩
    refine ⟨_, rfl, 1, _, .d (.int 4), rfl, rfl, at_nat (n := 1) rfl, ?_⟩
    refine ⟨_, rfl, 0, _, .d (.int 3), rfl, rfl, at_nat (n := 0) rfl, ?_⟩
    refine ⟨Nat.le_of_ble_eq_true rfl, mkT_l (ds := [.int 9, .int 3]) rfl ?_⟩
    refine ⟨_, rfl, 2, _, .d (.int 5), rfl, rfl, at_nat (n := 2) rfl, ?_⟩
    refine ⟨Nat.le_of_ble_eq_true rfl, mkT_l (ds := [.int 2, .int 5]) rfl ?_⟩
    refine ⟨Nat.le_of_ble_eq_true rfl, mkT_l (ds := [.tuple [.int 9, .int 3], .tuple [.int 2, .int 5]]) rfl ?_⟩
    refine ⟨Nat.le_of_ble_eq_true rfl, [.bool true, .bool true, .int 4, .tuple [.tuple [.int 9, .int 3], .tuple [.int 3, .int 4]], .tuple [.tuple [.int 9, .int 4]], .none, .none, .int 4, .tuple [.tuple [.int 9, .int 3], .tuple [.int 2, .int 5]]], rfl, ?_⟩
    refine ⟨_, rfl, ?_⟩
    refine ⟨_, rfl, ?_⟩
    refine ⟨_, rfl, 1, _, .d (.int 4), rfl, rfl, at_nat (n := 1) rfl, ?_⟩
    refine ⟨Nat.le_of_ble_eq_true rfl, mkT_l (ds := [.int 3, .int 4]) rfl ?_⟩
    refine ⟨_, rfl, 1, _, .d (.int 4), rfl, rfl, at_nat (n := 1) rfl, ?_⟩
    refine ⟨Nat.le_of_ble_eq_true rfl, mkT_l (ds := [.int 9, .int 4]) rfl ?_⟩
    refine ⟨Nat.le_of_ble_eq_true rfl, mkT_l (ds := [.tuple [.int 3, .int 4], .tuple [.int 9, .int 4]]) rfl ?_⟩
    refine ⟨_, rfl, 1, _, .d (.int 4), rfl, rfl, at_nat (n := 1) rfl, ?_⟩
    refine ⟨_, rfl, 0, _, .d (.int 3), rfl, rfl, at_nat (n := 0) rfl, ?_⟩
    refine ⟨Nat.le_of_ble_eq_true rfl, mkT_l (ds := [.int 9, .int 3]) rfl ?_⟩
    refine ⟨_, rfl, 1, _, .d (.int 4), rfl, rfl, at_nat (n := 1) rfl, ?_⟩
    refine ⟨Nat.le_of_ble_eq_true rfl, mkT_l (ds := [.int 3, .int 4]) rfl ?_⟩
    refine ⟨Nat.le_of_ble_eq_true rfl, mkT_l (ds := [.tuple [.int 9, .int 3], .tuple [.int 3, .int 4]]) rfl ?_⟩
    refine ⟨Nat.le_of_ble_eq_true rfl, [.tuple [.tuple [.int 3, .int 4], .tuple [.int 9, .int 4]], .int 4, .tuple [.tuple [.int 9, .int 3], .tuple [.int 3, .int 4]]], rfl, ?_⟩
    refine ⟨_, _, [.bool true, .bool true, .int 4, .tuple [.tuple [.int 9, .int 3], .tuple [.int 3, .int 4]], .tuple [.tuple [.int 9, .int 4]], .none, .none, .int 4, .tuple [.tuple [.int 9, .int 3], .tuple [.int 2, .int 5]], .tuple [.tuple [.int 3, .int 4], .tuple [.int 9, .int 4]], .int 4, .tuple [.tuple [.int 9, .int 3], .tuple [.int 3, .int 4]]], rfl, rfl, Nat.le_of_ble_eq_true rfl, rfl, ?_⟩
    exact ⟨.list [.bool true, .bool true, .int 4, .tuple [.tuple [.int 9, .int 3], .tuple [.int 3, .int 4]], .tuple [.tuple [.int 9, .int 4]], .none, .none, .int 4, .tuple [.tuple [.int 9, .int 3], .tuple [.int 2, .int 5]], .tuple [.tuple [.int 3, .int 4], .tuple [.int 9, .int 4]], .int 4, .tuple [.tuple [.int 9, .int 3], .tuple [.int 3, .int 4]]], rfl, ⟨by decide +kernel, by decide +kernel, by decide +kernel, by decide +kernel⟩, h _⟩
  · refine ⟨6, rfl, by decide, by decide, ?_⟩
    refine lc_rngE (fun i => .int (((0 + (i : Int)) + 4) % 6)) [.int 4, .int 5, .int 0, .int 1, .int 2, .int 3] (Nat.le_of_ble_eq_true rfl) rfl (fun i M hi hM C' N' hC => iteT ⟨_, rfl, _, rfl, (by decide : (0 : Int) < 6), hC M Mle.refl⟩) fun m0 hm0 => ?_
    refine fun a dx na => c_init (by decide) mu_same fun p m1 A1 => ⟨rfl, ?_⟩
    obtain ⟨dx1, ho1⟩ := A1.ob
    refine ⟨_, rfl, a, dx1, _, rfl, ho1, fl_no _ _ (by decide +kernel) (by decide +kernel), ?_⟩
    refine ⟨_, rfl, 0, _, .d (.int 4), rfl, rfl, at_nat (n := 0) rfl, ?_⟩
    refine c_req A1 (i := 4) (k := 9) (rs' := ([⟨9, 4, true⟩] : List Rq)) (b := true) rfl rfl (fun m2 hm2 A2 => ?_)
    obtain ⟨dx2, ho2⟩ := A2.ob
    refine ⟨_, rfl, a, dx2, _, rfl, ho2, fl_no _ _ (by decide +kernel) (by decide +kernel), ?_⟩
    refine ⟨_, rfl, 1, _, .d (.int 5), rfl, rfl, at_nat (n := 1) rfl, ?_⟩
    refine c_req A2 (i := 5) (k := 9) (rs' := ([⟨9, 4, true⟩, ⟨9, 5, true⟩] : List Rq)) (b := true) rfl rfl (fun m3 hm3 A3 => ?_)
    obtain ⟨dx3, ho3⟩ := A3.ob
    refine ⟨_, rfl, a, dx3, _, rfl, ho3, fl_no _ _ (by decide +kernel) (by decide +kernel), ?_⟩
    refine ⟨_, rfl, 1, _, .d (.int 5), rfl, rfl, at_nat (n := 1) rfl, ?_⟩
    refine ⟨_, rfl, 0, _, .d (.int 4), rfl, rfl, at_nat (n := 0) rfl, ?_⟩
    refine ⟨_, rfl, 1, _, .d (.int 5), rfl, rfl, at_nat (n := 1) rfl, ?_⟩
    refine ⟨Nat.le_of_ble_eq_true rfl, mkT_l (ds := [.int 4, .int 5]) rfl ?_⟩
    refine c_pre A3 (i := 5) (k := 3) (vs := [4, 5]) (rs' := ([⟨9, 4, true⟩, ⟨9, 5, false⟩, ⟨3, 5, true⟩] : List Rq)) (v := 5) (by first | rfl | kernel_rfl) (fun m4 hm4 A4 => ?_)
    obtain ⟨dx4, ho4⟩ := A4.ob
    refine ⟨_, rfl, a, dx4, _, rfl, ho4, fl_no _ _ (by decide +kernel) (by decide +kernel), ?_⟩
    refine c_hold A4 (L := [.tuple [.int 9, .int 4], .tuple [.int 3, .int 5]]) rfl (fun m5 hm5 A5 => ?_)
    refine ⟨Nat.le_of_ble_eq_true rfl, [.bool true, .bool true, .int 5, .tuple [.tuple [.int 9, .int 4], .tuple [.int 3, .int 5]]], rfl, ?_⟩
    refine ⟨_, rfl, ?_⟩
    obtain ⟨dx5, ho5⟩ := A5.ob
    refine ⟨_, rfl, a, dx5, _, rfl, ho5, fl_no _ _ (by decide +kernel) (by decide +kernel), ?_⟩
    refine c_wait A5 (L := [.tuple [.int 9, .int 5]]) (wait_c (sv_c (I := [1]) (L := [(9, 1)]) (by decide) (by decide) rfl) rfl) (fun m6 hm6 A6 => ?_)
    obtain ⟨dx6, ho6⟩ := A6.ob
    refine ⟨_, rfl, a, dx6, _, rfl, ho6, fl_no _ _ (by decide +kernel) (by decide +kernel), ?_⟩
    refine ⟨_, rfl, 2, _, .d (.int 0), rfl, rfl, at_nat (n := 2) rfl, ?_⟩
    refine ⟨_, rfl, 0, _, .d (.int 4), rfl, rfl, at_nat (n := 0) rfl, ?_⟩
    refine ⟨_, rfl, 1, _, .d (.int 5), rfl, rfl, at_nat (n := 1) rfl, ?_⟩
    refine ⟨Nat.le_of_ble_eq_true rfl, mkT_l (ds := [.int 4, .int 5]) rfl ?_⟩
    refine c_pre0 A6 (i := 0) (k := 9) (vs := [4, 5]) (by first | rfl | kernel_rfl) (fun m7 hm7 A7 => ?_)
    obtain ⟨dx7, ho7⟩ := A7.ob
    refine ⟨_, rfl, a, dx7, _, rfl, ho7, fl_no _ _ (by decide +kernel) (by decide +kernel), ?_⟩
    refine ⟨_, rfl, 2, _, .d (.int 0), rfl, rfl, at_nat (n := 2) rfl, ?_⟩
    refine ⟨_, rfl, 1, _, .d (.int 5), rfl, rfl, at_nat (n := 1) rfl, ?_⟩
    refine ⟨Nat.le_of_ble_eq_true rfl, mkT_l (ds := [.int 5]) rfl ?_⟩
    refine c_pre0 A7 (i := 0) (k := 3) (vs := [5]) (by first | rfl | kernel_rfl) (fun m8 hm8 A8 => ?_)
    refine ⟨Nat.le_of_ble_eq_true rfl, [.tuple [.tuple [.int 9, .int 5]], .none, .none], rfl, ?_⟩
    refine ⟨_, _, [.bool true, .bool true, .int 5, .tuple [.tuple [.int 9, .int 4], .tuple [.int 3, .int 5]], .tuple [.tuple [.int 9, .int 5]], .none, .none], rfl, rfl, Nat.le_of_ble_eq_true rfl, rfl, ?_⟩
    refine ⟨_, rfl, ?_⟩
    obtain ⟨dx8, ho8⟩ := A8.ob
    refine ⟨_, rfl, a, dx8, _, rfl, ho8, fl_no _ _ (by decide +kernel) (by decide +kernel), ?_⟩
    refine ⟨_, rfl, 2, _, .d (.int 0), rfl, rfl, at_nat (n := 2) rfl, ?_⟩
    refine ⟨_, rfl, 1, _, .d (.int 5), rfl, rfl, at_nat (n := 1) rfl, ?_⟩
    refine ⟨Nat.le_of_ble_eq_true rfl, mkT_l (ds := [.int 5]) rfl ?_⟩
    refine c_pre A8 (i := 0) (k := 2) (vs := [5]) (rs' := ([⟨9, 4, true⟩, ⟨9, 5, false⟩, ⟨3, 5, false⟩, ⟨2, 0, true⟩] : List Rq)) (v := 5) (by first | rfl | kernel_rfl) (fun m9 hm9 A9 => ?_)
    obtain ⟨dx9, ho9⟩ := A9.ob
    refine ⟨_, rfl, a, dx9, _, rfl, ho9, fl_no _ _ (by decide +kernel) (by decide +kernel), ?_⟩
    refine c_hold A9 (L := [.tuple [.int 9, .int 4], .tuple [.int 2, .int 0]]) rfl (fun m10 hm10 A10 => ?_)
    obtain ⟨dx10, ho10⟩ := A10.ob
    refine ⟨_, rfl, a, dx10, _, rfl, ho10, fl_no _ _ (by decide +kernel) (by decide +kernel), ?_⟩
    refine c_wait A10 (L := [.tuple [.int 3, .int 5], .tuple [.int 9, .int 5]]) (wait_c (sv_c (I := [2, 1]) (L := [(3, 2), (9, 1)]) (by decide) (by decide) rfl) rfl) (fun m11 hm11 A11 => ?_)
    obtain ⟨dx11, ho11⟩ := A11.ob
    refine ⟨_, rfl, a, dx11, _, rfl, ho11, fl_no _ _ (by decide +kernel) (by decide +kernel), ?_⟩
    refine ⟨_, rfl, 2, _, .d (.int 0), rfl, rfl, at_nat (n := 2) rfl, ?_⟩
    refine c_rel A11 (i := 0) (rs' := ([⟨9, 4, true⟩, ⟨9, 5, false⟩, ⟨3, 5, true⟩] : List Rq)) (d := .int 5) (rel_c (j := 3) rfl (sv_c (I := [2, 1]) (L := [(3, 2), (9, 1)]) (by decide) (by decide) rfl) rfl) (fun m12 hm12 A12 => ?_)
    obtain ⟨dx12, ho12⟩ := A12.ob
    refine ⟨_, rfl, a, dx12, _, rfl, ho12, fl_no _ _ (by decide +kernel) (by decide +kernel), ?_⟩
    refine c_hold A12 (L := [.tuple [.int 9, .int 4], .tuple [.int 3, .int 5]]) rfl (fun m13 hm13 A13 => ?_)
    refine ⟨Nat.le_of_ble_eq_true rfl, [.int 5, .tuple [.tuple [.int 9, .int 4], .tuple [.int 2, .int 0]], .tuple [.tuple [.int 3, .int 5], .tuple [.int 9, .int 5]], .int 5, .tuple [.tuple [.int 9, .int 4], .tuple [.int 3, .int 5]]], rfl, ?_⟩
    refine ⟨_, _, [.bool true, .bool true, .int 5, .tuple [.tuple [.int 9, .int 4], .tuple [.int 3, .int 5]], .tuple [.tuple [.int 9, .int 5]], .none, .none, .int 5, .tuple [.tuple [.int 9, .int 4], .tuple [.int 2, .int 0]], .tuple [.tuple [.int 3, .int 5], .tuple [.int 9, .int 5]], .int 5, .tuple [.tuple [.int 9, .int 4], .tuple [.int 3, .int 5]]], rfl, rfl, Nat.le_of_ble_eq_true rfl, rfl, ?_⟩
    refine ⟨_, rfl, 1, _, .d (.int 5), rfl, rfl, at_nat (n := 1) rfl, ?_⟩
    refine ⟨_, rfl, 0, _, .d (.int 4), rfl, rfl, at_nat (n := 0) rfl, ?_⟩
    refine ⟨Nat.le_of_ble_eq_true rfl, mkT_l (ds := [.int 9, .int 4]) rfl ?_⟩
    refine ⟨_, rfl, 1, _, .d (.int 5), rfl, rfl, at_nat (n := 1) rfl, ?_⟩
    refine ⟨Nat.le_of_ble_eq_true rfl, mkT_l (ds := [.int 3, .int 5]) rfl ?_⟩
    refine ⟨Nat.le_of_ble_eq_true rfl, mkT_l (ds := [.tuple [.int 9, .int 4], .tuple [.int 3, .int 5]]) rfl ?_⟩
    refine ⟨_, rfl, 1, _, .d (.int 5), rfl, rfl, at_nat (n := 1) rfl, ?_⟩
    refine ⟨Nat.le_of_ble_eq_true rfl, mkT_l (ds := [.int 9, .int 5]) rfl ?_⟩
    refine ⟨Nat.le_of_ble_eq_true rfl, mkT_l (ds := [.tuple [.int 9, .int 5]]) rfl ?_⟩
    refine ⟨_, rfl, 1, _, .d (.int 5), rfl, rfl, at_nat (n := 1) rfl, ?_⟩
    refine ⟨_, rfl, 0, _, .d (.int 4), rfl, rfl, at_nat (n := 0) rfl, ?_⟩
    refine ⟨Nat.le_of_ble_eq_true rfl, mkT_l (ds := [.int 9, .int 4]) rfl ?_⟩
    refine ⟨_, rfl, 2, _, .d (.int 0), rfl, rfl, at_nat (n := 2) rfl, ?_⟩
    refine ⟨Nat.le_of_ble_eq_true rfl, mkT_l (ds := [.int 2, .int 0]) rfl ?_⟩
    refine ⟨Nat.le_of_ble_eq_true rfl, mkT_l (ds := [.tuple [.int 9, .int 4], .tuple [.int 2, .int 0]]) rfl ?_⟩
    refine ⟨Nat.le_of_ble_eq_true rfl, [.bool true, .bool true, .int 5, .tuple [.tuple [.int 9, .int 4], .tuple [.int 3, .int 5]], .tuple [.tuple [.int 9, .int 5]], .none, .none, .int 5, .tuple [.tuple [.int 9, .int 4], .tuple [.int 2, .int 0]]], rfl, ?_⟩
    refine ⟨_, rfl, ?_⟩
    refine ⟨_, rfl, ?_⟩
    refine ⟨_, rfl, 1, _, .d (.int 5), rfl, rfl, at_nat (n := 1) rfl, ?_⟩
    refine ⟨Nat.le_of_ble_eq_true rfl, mkT_l (ds := [.int 3, .int 5]) rfl ?_⟩
    refine ⟨_, rfl, 1, _, .d (.int 5), rfl, rfl, at_nat (n := 1) rfl, ?_⟩
    refine ⟨Nat.le_of_ble_eq_true rfl, mkT_l (ds := [.int 9, .int 5]) rfl ?_⟩
    refine ⟨Nat.le_of_ble_eq_true rfl, mkT_l (ds := [.tuple [.int 3, .int 5], .tuple [.int 9, .int 5]]) rfl ?_⟩
    refine ⟨_, rfl, 1, _, .d (.int 5), rfl, rfl, at_nat (n := 1) rfl, ?_⟩
    refine ⟨_, rfl, 0, _, .d (.int 4), rfl, rfl, at_nat (n := 0) rfl, ?_⟩
    refine ⟨Nat.le_of_ble_eq_true rfl, mkT_l (ds := [.int 9, .int 4]) rfl ?_⟩
    refine ⟨_, rfl, 1, _, .d (.int 5), rfl, rfl, at_nat (n := 1) rfl, ?_⟩
    refine ⟨Nat.le_of_ble_eq_true rfl, mkT_l (ds := [.int 3, .int 5]) rfl ?_⟩
    refine ⟨Nat.le_of_ble_eq_true rfl, mkT_l (ds := [.tuple [.int 9, .int 4], .tuple [.int 3, .int 5]]) rfl ?_⟩
    refine ⟨Nat.le_of_ble_eq_true rfl, [.tuple [.tuple [.int 3, .int 5], .tuple [.int 9, .int 5]], .int 5, .tuple [.tuple [.int 9, .int 4], .tuple [.int 3, .int 5]]], rfl, ?_⟩
    refine ⟨_, _, [.bool true, .bool true, .int 5, .tuple [.tuple [.int 9, .int 4], .tuple [.int 3, .int 5]], .tuple [.tuple [.int 9, .int 5]], .none, .none, .int 5, .tuple [.tuple [.int 9, .int 4], .tuple [.int 2, .int 0]], .tuple [.tuple [.int 3, .int 5], .tuple [.int 9, .int 5]], .int 5, .tuple [.tuple [.int 9, .int 4], .tuple [.int 3, .int 5]]], rfl, rfl, Nat.le_of_ble_eq_true rfl, rfl, ?_⟩
    exact ⟨.list [.bool true, .bool true, .int 5, .tuple [.tuple [.int 9, .int 4], .tuple [.int 3, .int 5]], .tuple [.tuple [.int 9, .int 5]], .none, .none, .int 5, .tuple [.tuple [.int 9, .int 4], .tuple [.int 2, .int 0]], .tuple [.tuple [.int 3, .int 5], .tuple [.int 9, .int 5]], .int 5, .tuple [.tuple [.int 9, .int 4], .tuple [.int 3, .int 5]]], rfl, ⟨by decide +kernel, by decide +kernel, by decide +kernel, by decide +kernel⟩, h _⟩
  · refine ⟨6, rfl, by decide, by decide, ?_⟩
    refine lc_rngE (fun i => .int (((0 + (i : Int)) + 5) % 6)) [.int 5, .int 0, .int 1, .int 2, .int 3, .int 4] (Nat.le_of_ble_eq_true rfl) rfl (fun i M hi hM C' N' hC => iteT ⟨_, rfl, _, rfl, (by decide : (0 : Int) < 6), hC M Mle.refl⟩) fun m0 hm0 => ?_
    refine fun a dx na => c_init (by decide) mu_same fun p m1 A1 => ⟨rfl, ?_⟩
    obtain ⟨dx1, ho1⟩ := A1.ob
    refine ⟨_, rfl, a, dx1, _, rfl, ho1, fl_no _ _ (by decide +kernel) (by decide +kernel), ?_⟩
    refine ⟨_, rfl, 0, _, .d (.int 5), rfl, rfl, at_nat (n := 0) rfl, ?_⟩
    refine c_req A1 (i := 5) (k := 9) (rs' := ([⟨9, 5, true⟩] : List Rq)) (b := true) rfl rfl (fun m2 hm2 A2 => ?_)
    obtain ⟨dx2, ho2⟩ := A2.ob
    refine ⟨_, rfl, a, dx2, _, rfl, ho2, fl_no _ _ (by decide +kernel) (by decide +kernel), ?_⟩
    refine ⟨_, rfl, 1, _, .d (.int 0), rfl, rfl, at_nat (n := 1) rfl, ?_⟩
    refine c_req A2 (i := 0) (k := 9) (rs' := ([⟨9, 5, true⟩, ⟨9, 0, true⟩] : List Rq)) (b := true) rfl rfl (fun m3 hm3 A3 => ?_)
    obtain ⟨dx3, ho3⟩ := A3.ob
    refine ⟨_, rfl, a, dx3, _, rfl, ho3, fl_no _ _ (by decide +kernel) (by decide +kernel), ?_⟩
    refine ⟨_, rfl, 1, _, .d (.int 0), rfl, rfl, at_nat (n := 1) rfl, ?_⟩
    refine ⟨_, rfl, 0, _, .d (.int 5), rfl, rfl, at_nat (n := 0) rfl, ?_⟩
    refine ⟨_, rfl, 1, _, .d (.int 0), rfl, rfl, at_nat (n := 1) rfl, ?_⟩
    refine ⟨Nat.le_of_ble_eq_true rfl, mkT_l (ds := [.int 5, .int 0]) rfl ?_⟩
    refine c_pre A3 (i := 0) (k := 3) (vs := [5, 0]) (rs' := ([⟨9, 5, true⟩, ⟨9, 0, false⟩, ⟨3, 0, true⟩] : List Rq)) (v := 0) (by first | rfl | kernel_rfl) (fun m4 hm4 A4 => ?_)
    obtain ⟨dx4, ho4⟩ := A4.ob
    refine ⟨_, rfl, a, dx4, _, rfl, ho4, fl_no _ _ (by decide +kernel) (by decide +kernel), ?_⟩
    refine c_hold A4 (L := [.tuple [.int 9, .int 5], .tuple [.int 3, .int 0]]) rfl (fun m5 hm5 A5 => ?_)
    refine ⟨Nat.le_of_ble_eq_true rfl, [.bool true, .bool true, .int 0, .tuple [.tuple [.int 9, .int 5], .tuple [.int 3, .int 0]]], rfl, ?_⟩
    refine ⟨_, rfl, ?_⟩
    obtain ⟨dx5, ho5⟩ := A5.ob
    refine ⟨_, rfl, a, dx5, _, rfl, ho5, fl_no _ _ (by decide +kernel) (by decide +kernel), ?_⟩
    refine c_wait A5 (L := [.tuple [.int 9, .int 0]]) (wait_c (sv_c (I := [1]) (L := [(9, 1)]) (by decide) (by decide) rfl) rfl) (fun m6 hm6 A6 => ?_)
    obtain ⟨dx6, ho6⟩ := A6.ob
    refine ⟨_, rfl, a, dx6, _, rfl, ho6, fl_no _ _ (by decide +kernel) (by decide +kernel), ?_⟩
    refine ⟨_, rfl, 2, _, .d (.int 1), rfl, rfl, at_nat (n := 2) rfl, ?_⟩
    refine ⟨_, rfl, 0, _, .d (.int 5), rfl, rfl, at_nat (n := 0) rfl, ?_⟩
    refine ⟨_, rfl, 1, _, .d (.int 0), rfl, rfl, at_nat (n := 1) rfl, ?_⟩
    refine ⟨Nat.le_of_ble_eq_true rfl, mkT_l (ds := [.int 5, .int 0]) rfl ?_⟩
    refine c_pre0 A6 (i := 1) (k := 9) (vs := [5, 0]) (by first | rfl | kernel_rfl) (fun m7 hm7 A7 => ?_)
    obtain ⟨dx7, ho7⟩ := A7.ob
    refine ⟨_, rfl, a, dx7, _, rfl, ho7, fl_no _ _ (by decide +kernel) (by decide +kernel), ?_⟩
    refine ⟨_, rfl, 2, _, .d (.int 1), rfl, rfl, at_nat (n := 2) rfl, ?_⟩
    refine ⟨_, rfl, 1, _, .d (.int 0), rfl, rfl, at_nat (n := 1) rfl, ?_⟩
    refine ⟨Nat.le_of_ble_eq_true rfl, mkT_l (ds := [.int 0]) rfl ?_⟩
    refine c_pre0 A7 (i := 1) (k := 3) (vs := [0]) (by first | rfl | kernel_rfl) (fun m8 hm8 A8 => ?_)
    refine ⟨Nat.le_of_ble_eq_true rfl, [.tuple [.tuple [.int 9, .int 0]], .none, .none], rfl, ?_⟩
    refine ⟨_, _, [.bool true, .bool true, .int 0, .tuple [.tuple [.int 9, .int 5], .tuple [.int 3, .int 0]], .tuple [.tuple [.int 9, .int 0]], .none, .none], rfl, rfl, Nat.le_of_ble_eq_true rfl, rfl, ?_⟩
    refine ⟨_, rfl, ?_⟩
    obtain ⟨dx8, ho8⟩ := A8.ob
    refine ⟨_, rfl, a, dx8, _, rfl, ho8, fl_no _ _ (by decide +kernel) (by decide +kernel), ?_⟩
    refine ⟨_, rfl, 2, _, .d (.int 1), rfl, rfl, at_nat (n := 2) rfl, ?_⟩
    refine ⟨_, rfl, 1, _, .d (.int 0), rfl, rfl, at_nat (n := 1) rfl, ?_⟩
    refine ⟨Nat.le_of_ble_eq_true rfl, mkT_l (ds := [.int 0]) rfl ?_⟩
    refine c_pre A8 (i := 1) (k := 2) (vs := [0]) (rs' := ([⟨9, 5, true⟩, ⟨9, 0, false⟩, ⟨3, 0, false⟩, ⟨2, 1, true⟩] : List Rq)) (v := 0) (by first | rfl | kernel_rfl) (fun m9 hm9 A9 => ?_)
    obtain ⟨dx9, ho9⟩ := A9.ob
    refine ⟨_, rfl, a, dx9, _, rfl, ho9, fl_no _ _ (by decide +kernel) (by decide +kernel), ?_⟩
    refine c_hold A9 (L := [.tuple [.int 9, .int 5], .tuple [.int 2, .int 1]]) rfl (fun m10 hm10 A10 => ?_)
    obtain ⟨dx10, ho10⟩ := A10.ob
    refine ⟨_, rfl, a, dx10, _, rfl, ho10, fl_no _ _ (by decide +kernel) (by decide +kernel), ?_⟩
    refine c_wait A10 (L := [.tuple [.int 3, .int 0], .tuple [.int 9, .int 0]]) (wait_c (sv_c (I := [2, 1]) (L := [(3, 2), (9, 1)]) (by decide) (by decide) rfl) rfl) (fun m11 hm11 A11 => ?_)
    obtain ⟨dx11, ho11⟩ := A11.ob
    refine ⟨_, rfl, a, dx11, _, rfl, ho11, fl_no _ _ (by decide +kernel) (by decide +kernel), ?_⟩
    refine ⟨_, rfl, 2, _, .d (.int 1), rfl, rfl, at_nat (n := 2) rfl, ?_⟩
    refine c_rel A11 (i := 1) (rs' := ([⟨9, 5, true⟩, ⟨9, 0, false⟩, ⟨3, 0, true⟩] : List Rq)) (d := .int 0) (rel_c (j := 3) rfl (sv_c (I := [2, 1]) (L := [(3, 2), (9, 1)]) (by decide) (by decide) rfl) rfl) (fun m12 hm12 A12 => ?_)
    obtain ⟨dx12, ho12⟩ := A12.ob
    refine ⟨_, rfl, a, dx12, _, rfl, ho12, fl_no _ _ (by decide +kernel) (by decide +kernel), ?_⟩
    refine c_hold A12 (L := [.tuple [.int 9, .int 5], .tuple [.int 3, .int 0]]) rfl (fun m13 hm13 A13 => ?_)
    refine ⟨Nat.le_of_ble_eq_true rfl, [.int 0, .tuple [.tuple [.int 9, .int 5], .tuple [.int 2, .int 1]], .tuple [.tuple [.int 3, .int 0], .tuple [.int 9, .int 0]], .int 0, .tuple [.tuple [.int 9, .int 5], .tuple [.int 3, .int 0]]], rfl, ?_⟩
    refine ⟨_, _, [.bool true, .bool true, .int 0, .tuple [.tuple [.int 9, .int 5], .tuple [.int 3, .int 0]], .tuple [.tuple [.int 9, .int 0]], .none, .none, .int 0, .tuple [.tuple [.int 9, .int 5], .tuple [.int 2, .int 1]], .tuple [.tuple [.int 3, .int 0], .tuple [.int 9, .int 0]], .int 0, .tuple [.tuple [.int 9, .int 5], .tuple [.int 3, .int 0]]], rfl, rfl, Nat.le_of_ble_eq_true rfl, rfl, ?_⟩
    refine ⟨_, rfl, 1, _, .d (.int 0), rfl, rfl, at_nat (n := 1) rfl, ?_⟩
    refine ⟨_, rfl, 0, _, .d (.int 5), rfl, rfl, at_nat (n := 0) rfl, ?_⟩
    refine ⟨Nat.le_of_ble_eq_true rfl, mkT_l (ds := [.int 9, .int 5]) rfl ?_⟩
    refine ⟨_, rfl, 1, _, .d (.int 0), rfl, rfl, at_nat (n := 1) rfl, ?_⟩
    refine ⟨Nat.le_of_ble_eq_true rfl, mkT_l (ds := [.int 3, .int 0]) rfl ?_⟩
    refine ⟨Nat.le_of_ble_eq_true rfl, mkT_l (ds := [.tuple [.int 9, .int 5], .tuple [.int 3, .int 0]]) rfl ?_⟩
    refine ⟨_, rfl, 1, _, .d (.int 0), rfl, rfl, at_nat (n := 1) rfl, ?_⟩
    refine ⟨Nat.le_of_ble_eq_true rfl, mkT_l (ds := [.int 9, .int 0]) rfl ?_⟩
    refine ⟨Nat.le_of_ble_eq_true rfl, mkT_l (ds := [.tuple [.int 9, .int 0]]) rfl ?_⟩
    refine ⟨_, rfl, 1, _, .d (.int 0), rfl, rfl, at_nat (n := 1) rfl, ?_⟩
    refine ⟨_, rfl, 0, _, .d (.int 5), rfl, rfl, at_nat (n := 0) rfl, ?_⟩
    refine ⟨Nat.le_of_ble_eq_true rfl, mkT_l (ds := [.int 9, .int 5]) rfl ?_⟩
    refine ⟨_, rfl, 2, _, .d (.int 1), rfl, rfl, at_nat (n := 2) rfl, ?_⟩
    refine ⟨Nat.le_of_ble_eq_true rfl, mkT_l (ds := [.int 2, .int 1]) rfl ?_⟩
    refine ⟨Nat.le_of_ble_eq_true rfl, mkT_l (ds := [.tuple [.int 9, .int 5], .tuple [.int 2, .int 1]]) rfl ?_⟩
    refine ⟨Nat.le_of_ble_eq_true rfl, [.bool true, .bool true, .int 0, .tuple [.tuple [.int 9, .int 5], .tuple [.int 3, .int 0]], .tuple [.tuple [.int 9, .int 0]], .none, .none, .int 0, .tuple [.tuple [.int 9, .int 5], .tuple [.int 2, .int 1]]], rfl, ?_⟩
    refine ⟨_, rfl, ?_⟩
    refine ⟨_, rfl, ?_⟩
    refine ⟨_, rfl, 1, _, .d (.int 0), rfl, rfl, at_nat (n := 1) rfl, ?_⟩
    refine ⟨Nat.le_of_ble_eq_true rfl, mkT_l (ds := [.int 3, .int 0]) rfl ?_⟩
    refine ⟨_, rfl, 1, _, .d (.int 0), rfl, rfl, at_nat (n := 1) rfl, ?_⟩
    refine ⟨Nat.le_of_ble_eq_true rfl, mkT_l (ds := [.int 9, .int 0]) rfl ?_⟩
    refine ⟨Nat.le_of_ble_eq_true rfl, mkT_l (ds := [.tuple [.int 3, .int 0], .tuple [.int 9, .int 0]]) rfl ?_⟩
    refine ⟨_, rfl, 1, _, .d (.int 0), rfl, rfl, at_nat (n := 1) rfl, ?_⟩
    refine ⟨_, rfl, 0, _, .d (.int 5), rfl, rfl, at_nat (n := 0) rfl, ?_⟩
    refine ⟨Nat.le_of_ble_eq_true rfl, mkT_l (ds := [.int 9, .int 5]) rfl ?_⟩
    refine ⟨_, rfl, 1, _, .d (.int 0), rfl, rfl, at_nat (n := 1) rfl, ?_⟩
    refine ⟨Nat.le_of_ble_eq_true rfl, mkT_l (ds := [.int 3, .int 0]) rfl ?_⟩
    refine ⟨Nat.le_of_ble_eq_true rfl, mkT_l (ds := [.tuple [.int 9, .int 5], .tuple [.int 3, .int 0]]) rfl ?_⟩
    refine ⟨Nat.le_of_ble_eq_true rfl, [.tuple [.tuple [.int 3, .int 0], .tuple [.int 9, .int 0]], .int 0, .tuple [.tuple [.int 9, .int 5], .tuple [.int 3, .int 0]]], rfl, ?_⟩
    refine ⟨_, _, [.bool true, .bool true, .int 0, .tuple [.tuple [.int 9, .int 5], .tuple [.int 3, .int 0]], .tuple [.tuple [.int 9, .int 0]], .none, .none, .int 0, .tuple [.tuple [.int 9, .int 5], .tuple [.int 2, .int 1]], .tuple [.tuple [.int 3, .int 0], .tuple [.int 9, .int 0]], .int 0, .tuple [.tuple [.int 9, .int 5], .tuple [.int 3, .int 0]]], rfl, rfl, Nat.le_of_ble_eq_true rfl, rfl, ?_⟩
    exact ⟨.list [.bool true, .bool true, .int 0, .tuple [.tuple [.int 9, .int 5], .tuple [.int 3, .int 0]], .tuple [.tuple [.int 9, .int 0]], .none, .none, .int 0, .tuple [.tuple [.int 9, .int 5], .tuple [.int 2, .int 1]], .tuple [.tuple [.int 3, .int 0], .tuple [.int 9, .int 0]], .int 0, .tuple [.tuple [.int 9, .int 5], .tuple [.int 3, .int 0]]], rfl, ⟨by decide +kernel, by decide +kernel, by decide +kernel, by decide +kernel⟩, h _⟩
abbrev s_law_fifth_case : Stmt := top 26
abbrev N_law_fifth_case : List Str := ["_law_shift", "_law_p", "_law_line", "_law_found", "_law_expected", "_law_place"]
theorem sc_law_fifth_case : FnScope N_law_fifth_case ["_law_shift"] (defScope s_law_fifth_case) := ⟨rfl, rfl, rfl, by decide +kernel, rfl, by decide +kernel, by decide +kernel⟩
theorem ok_law_fifth_case {f : Addr} {fd : FuncData} (F : Fun K "_law_fifth_case" "_law_fifth_case" s_law_fifth_case f fd) (T : Txt K mg) {C2 XH fN f_request f_preempt f_holders f_waiting p_free f_free f_released f_same : Addr} {fdN fd_request fd_preempt fd_holders fd_waiting fd_free fd_released fd_same : FuncData} (N_PreemptLine : NF P w K mg base "PreemptLine" C2 3 fN fdN ["self", "units"] (d_init C2)) (M2_request : MF P w K mg base C2 "request" 8 f_request fd_request ["self", "process", "rank"] (d_request C2)) (M2_preempt : MF P w K mg base C2 "preempt" 6 f_preempt fd_preempt ["self", "process", "rank", "victims"] (d_Ppreempt C2)) (M2_holders : MF P w K mg base C2 "holders" 3 f_holders fd_holders ["self"] (d_holders C2)) (M2_waiting : MF P w K mg base C2 "waiting" 5 f_waiting fd_waiting ["self"] (d_waiting C2 (svR 1))) (P2_free : PF P w K mg base C2 "free" 4 p_free f_free fd_free ["self"] (d_free C2)) (G_law_released : GF P w K mg base "_law_released" 8 f_released fd_released ["_law_line", "_law_who"] (d_law_released C2 (svR 1))) (G_law_same : GF P w K mg base "_law_same" 1 f_same fd_same ["_law_actual", "_law_expected"] d_law_same) : FnD P w K mg base 10 f fd ["_law_shift"] (d_case) := by
  refine Dl.Fun.dok F sc_law_fifth_case _ (fun cdv A outer s H E B hp =>
      (dss_cons (ds_setLc (i := 1) (fin := finD) finD_ok rfl sc_law_fifth_case.nd rfl rfl (sw_true rfl rfl rfl (by decide +kernel)) (di_range1 rfl T.b_range (da_cons (de_int) da_nil)) (blkOk_by (own := [("_law_place", 5)]) (N := N_law_fifth_case) (sc := defScope s_law_fifth_case) (by decide +kernel)) (fun _ _ _ _ _ => pg_name (i := 5) sc_law_fifth_case.nd rfl (by first | exact Or.inl rfl | exact Or.inr rfl)) (dgw_name (i := 5) (by decide)) (fun _ _ _ _ _ => dts_nil) (fun _ _ _ _ _ => de_op opd_mod (de_op opd_add (de_var (pv 5)) (de_var (pv 0))) (de_int)))
      (dss_cons (ds_set (i := 2) sc_law_fifth_case.nd rfl (by first | exact Or.inl rfl | exact Or.inr rfl) (de_nf N_PreemptLine B.hr B.gd B.tk rfl (da_cons (de_int) da_nil)))
      (dss_cons (ds_set (i := 3) sc_law_fifth_case.nd rfl (by first | exact Or.inl rfl | exact Or.inr rfl) (de_lst (da_cons (de_mf (de_var (pv 2)) M2_request B.hr B.gd B.tk (da_cons (de_ix (de_var (pv 1)) (de_int) (by intro _ _; rfl)) (da_cons (de_int) da_nil))) (da_cons (de_mf (de_var (pv 2)) M2_request B.hr B.gd B.tk (da_cons (de_ix (de_var (pv 1)) (de_int) (by intro _ _; rfl)) (da_cons (de_int) da_nil))) (da_cons (de_mf (de_var (pv 2)) M2_preempt B.hr B.gd B.tk (da_cons (de_ix (de_var (pv 1)) (de_int) (by intro _ _; rfl)) (da_cons (de_int) (da_cons (de_tup (da_cons (de_ix (de_var (pv 1)) (de_int) (by intro _ _; rfl)) da_nil)) da_nil)))) (da_cons (de_pf (de_var (pv 2)) P2_free B.hr B.gd) (da_cons (de_mf0 (de_var (pv 2)) M2_holders B.hr B.gd B.tk) da_nil)))))))
      (dss_cons (ds_set (i := 3) sc_law_fifth_case.nd rfl (by first | exact Or.inl rfl | exact Or.inr rfl) (de_op opd_add (de_var (pv 3)) (de_lst (da_cons (de_mf (de_var (pv 2)) M2_request B.hr B.gd B.tk (da_cons (de_ix (de_var (pv 1)) (de_int) (by intro _ _; rfl)) (da_cons (de_int) da_nil))) (da_cons (de_mf (de_var (pv 2)) M2_preempt B.hr B.gd B.tk (da_cons (de_ix (de_var (pv 1)) (de_int) (by intro _ _; rfl)) (da_cons (de_int) (da_cons (de_tup da_nil) da_nil)))) (da_cons (de_mf (de_var (pv 2)) M2_preempt B.hr B.gd B.tk (da_cons (de_ix (de_var (pv 1)) (de_int) (by intro _ _; rfl)) (da_cons (de_int) (da_cons (de_tup (da_cons (de_ix (de_var (pv 1)) (de_int) (by intro _ _; rfl)) (da_cons (de_ix (de_var (pv 1)) (de_int) (by intro _ _; rfl)) (da_cons (de_ix (de_var (pv 1)) (de_int) (by intro _ _; rfl)) da_nil)))) da_nil)))) da_nil))))))
      (dss_cons (ds_set (i := 3) sc_law_fifth_case.nd rfl (by first | exact Or.inl rfl | exact Or.inr rfl) (de_op opd_add (de_var (pv 3)) (de_lst (da_cons (de_mf0 (de_var (pv 2)) M2_holders B.hr B.gd B.tk) (da_cons (de_mf0 (de_var (pv 2)) M2_waiting B.hr B.gd B.tk) (da_cons (de_gf G_law_released B.hr B.gd B.tk rfl (da_cons (de_var (pv 2)) (da_cons (de_ix (de_var (pv 1)) (de_int) (by intro _ _; rfl)) da_nil))) (da_cons (de_mf (de_var (pv 2)) M2_preempt B.hr B.gd B.tk (da_cons (de_ix (de_var (pv 1)) (de_int) (by intro _ _; rfl)) (da_cons (de_int) (da_cons (de_tup (da_cons (de_ix (de_var (pv 1)) (de_int) (by intro _ _; rfl)) da_nil)) da_nil)))) da_nil)))))))
      (dss_cons (ds_set (i := 4) sc_law_fifth_case.nd rfl (by first | exact Or.inl rfl | exact Or.inr rfl) (de_lst (da_cons (de_bl) (da_cons (de_bl) (da_cons (de_non) (da_cons (de_int) (da_cons (de_tup (da_cons (de_tup (da_cons (de_int) (da_cons (de_ix (de_var (pv 1)) (de_int) (by intro _ _; rfl)) da_nil))) (da_cons (de_tup (da_cons (de_int) (da_cons (de_ix (de_var (pv 1)) (de_int) (by intro _ _; rfl)) da_nil))) da_nil))) (da_cons (de_bl) (da_cons (de_non) (da_cons (de_ix (de_var (pv 1)) (de_int) (by intro _ _; rfl)) (da_cons (de_tup (da_cons (de_tup (da_cons (de_int) (da_cons (de_ix (de_var (pv 1)) (de_int) (by intro _ _; rfl)) da_nil))) (da_cons (de_tup (da_cons (de_int) (da_cons (de_ix (de_var (pv 1)) (de_int) (by intro _ _; rfl)) da_nil))) (da_cons (de_tup (da_cons (de_int) (da_cons (de_ix (de_var (pv 1)) (de_int) (by intro _ _; rfl)) da_nil))) da_nil)))) da_nil)))))))))))
      (dss_one (ds_ret (de_gf G_law_same B.hr B.gd B.tk rfl (da_cons (de_var (pv 3)) (da_cons (de_op opd_add (de_var (pv 4)) (de_lst (da_cons (de_tup (da_cons (de_tup (da_cons (de_int) (da_cons (de_ix (de_var (pv 1)) (de_int) (by intro _ _; rfl)) da_nil))) da_nil)) (da_cons (de_non) (da_cons (de_non) da_nil))))) da_nil)))))))))))) (fun ys m F P h => ?_)
  obtain ⟨s, rfl, s0, s5, h⟩ := h
  refine ⟨rfl, ?_⟩
  have hs : s = 0 ∨ s = 1 ∨ s = 2 ∨ s = 3 ∨ s = 4 ∨ s = 5 := by omega
  clear s0 s5
  rcases hs with rfl | rfl | rfl | rfl | rfl | rfl
  · refine ⟨6, rfl, by decide, by decide, ?_⟩
    refine lc_rngE (fun i => .int (((0 + (i : Int)) + 0) % 6)) [.int 0, .int 1, .int 2, .int 3, .int 4, .int 5] (Nat.le_of_ble_eq_true rfl) rfl (fun i M hi hM C' N' hC => iteT ⟨_, rfl, _, rfl, (by decide : (0 : Int) < 6), hC M Mle.refl⟩) fun m0 hm0 => ?_
    refine fun a dx na => c_init (by decide) mu_same fun p m1 A1 => ⟨rfl, ?_⟩
    obtain ⟨dx1, ho1⟩ := A1.ob
    refine ⟨_, rfl, a, dx1, _, rfl, ho1, fl_no _ _ (by decide +kernel) (by decide +kernel), ?_⟩
    refine ⟨_, rfl, 0, _, .d (.int 0), rfl, rfl, at_nat (n := 0) rfl, ?_⟩
    refine c_req A1 (i := 0) (k := 9) (rs' := ([⟨9, 0, true⟩] : List Rq)) (b := true) rfl rfl (fun m2 hm2 A2 => ?_)
    obtain ⟨dx2, ho2⟩ := A2.ob
    refine ⟨_, rfl, a, dx2, _, rfl, ho2, fl_no _ _ (by decide +kernel) (by decide +kernel), ?_⟩
    refine ⟨_, rfl, 1, _, .d (.int 1), rfl, rfl, at_nat (n := 1) rfl, ?_⟩
    refine c_req A2 (i := 1) (k := 8) (rs' := ([⟨9, 0, true⟩, ⟨8, 1, true⟩] : List Rq)) (b := true) rfl rfl (fun m3 hm3 A3 => ?_)
    obtain ⟨dx3, ho3⟩ := A3.ob
    refine ⟨_, rfl, a, dx3, _, rfl, ho3, fl_no _ _ (by decide +kernel) (by decide +kernel), ?_⟩
    refine ⟨_, rfl, 2, _, .d (.int 2), rfl, rfl, at_nat (n := 2) rfl, ?_⟩
    refine ⟨_, rfl, 0, _, .d (.int 0), rfl, rfl, at_nat (n := 0) rfl, ?_⟩
    refine ⟨Nat.le_of_ble_eq_true rfl, mkT_l (ds := [.int 0]) rfl ?_⟩
    refine c_pre0 A3 (i := 2) (k := 0) (vs := [0]) (by first | rfl | kernel_rfl) (fun m4 hm4 A4 => ?_)
    obtain ⟨dx4, ho4⟩ := A4.ob
    refine ⟨_, rfl, a, dx4, _, rfl, ho4, c_free A4 (v := 1) rfl fun m5 hm5 A5 => ?_⟩
    obtain ⟨dx5, ho5⟩ := A5.ob
    refine ⟨_, rfl, a, dx5, _, rfl, ho5, fl_no _ _ (by decide +kernel) (by decide +kernel), ?_⟩
    refine c_hold A5 (L := [.tuple [.int 9, .int 0], .tuple [.int 8, .int 1]]) rfl (fun m6 hm6 A6 => ?_)
    refine ⟨Nat.le_of_ble_eq_true rfl, [.bool true, .bool true, .none, .int 1, .tuple [.tuple [.int 9, .int 0], .tuple [.int 8, .int 1]]], rfl, ?_⟩
    refine ⟨_, rfl, ?_⟩
    obtain ⟨dx6, ho6⟩ := A6.ob
    refine ⟨_, rfl, a, dx6, _, rfl, ho6, fl_no _ _ (by decide +kernel) (by decide +kernel), ?_⟩
    refine ⟨_, rfl, 3, _, .d (.int 3), rfl, rfl, at_nat (n := 3) rfl, ?_⟩
    refine c_req A6 (i := 3) (k := 8) (rs' := ([⟨9, 0, true⟩, ⟨8, 1, true⟩, ⟨8, 3, true⟩] : List Rq)) (b := true) rfl rfl (fun m7 hm7 A7 => ?_)
    obtain ⟨dx7, ho7⟩ := A7.ob
    refine ⟨_, rfl, a, dx7, _, rfl, ho7, fl_no _ _ (by decide +kernel) (by decide +kernel), ?_⟩
    refine ⟨_, rfl, 2, _, .d (.int 2), rfl, rfl, at_nat (n := 2) rfl, ?_⟩
    refine ⟨Nat.le_of_ble_eq_true rfl, mkT_l (ds := []) rfl ?_⟩
    refine c_pre0 A7 (i := 2) (k := 0) (vs := []) (by first | rfl | kernel_rfl) (fun m8 hm8 A8 => ?_)
    obtain ⟨dx8, ho8⟩ := A8.ob
    refine ⟨_, rfl, a, dx8, _, rfl, ho8, fl_no _ _ (by decide +kernel) (by decide +kernel), ?_⟩
    refine ⟨_, rfl, 2, _, .d (.int 2), rfl, rfl, at_nat (n := 2) rfl, ?_⟩
    refine ⟨_, rfl, 1, _, .d (.int 1), rfl, rfl, at_nat (n := 1) rfl, ?_⟩
    refine ⟨_, rfl, 3, _, .d (.int 3), rfl, rfl, at_nat (n := 3) rfl, ?_⟩
    refine ⟨_, rfl, 1, _, .d (.int 1), rfl, rfl, at_nat (n := 1) rfl, ?_⟩
    refine ⟨Nat.le_of_ble_eq_true rfl, mkT_l (ds := [.int 1, .int 3, .int 1]) rfl ?_⟩
    refine c_pre A8 (i := 2) (k := 0) (vs := [1, 3, 1]) (rs' := ([⟨9, 0, true⟩, ⟨8, 1, true⟩, ⟨8, 3, false⟩, ⟨0, 2, true⟩] : List Rq)) (v := 3) (by first | rfl | kernel_rfl) (fun m9 hm9 A9 => ?_)
    refine ⟨Nat.le_of_ble_eq_true rfl, [.bool true, .none, .int 3], rfl, ?_⟩
    refine ⟨_, _, [.bool true, .bool true, .none, .int 1, .tuple [.tuple [.int 9, .int 0], .tuple [.int 8, .int 1]], .bool true, .none, .int 3], rfl, rfl, Nat.le_of_ble_eq_true rfl, rfl, ?_⟩
    refine ⟨_, rfl, ?_⟩
    obtain ⟨dx9, ho9⟩ := A9.ob
    refine ⟨_, rfl, a, dx9, _, rfl, ho9, fl_no _ _ (by decide +kernel) (by decide +kernel), ?_⟩
    refine c_hold A9 (L := [.tuple [.int 9, .int 0], .tuple [.int 8, .int 1], .tuple [.int 0, .int 2]]) rfl (fun m10 hm10 A10 => ?_)
    obtain ⟨dx10, ho10⟩ := A10.ob
    refine ⟨_, rfl, a, dx10, _, rfl, ho10, fl_no _ _ (by decide +kernel) (by decide +kernel), ?_⟩
    refine c_wait A10 (L := [.tuple [.int 8, .int 3]]) (wait_c (sv_c (I := [2]) (L := [(8, 2)]) (by decide) (by decide) rfl) rfl) (fun m11 hm11 A11 => ?_)
    refine ⟨_, rfl, ?_⟩
    refine ⟨_, rfl, 3, _, .d (.int 3), rfl, rfl, at_nat (n := 3) rfl, ?_⟩
    refine c_lrel0 A11 (by rfl) fun m12 hm12 A12 => ?_
    obtain ⟨dx12, ho12⟩ := A12.ob
    refine ⟨_, rfl, a, dx12, _, rfl, ho12, fl_no _ _ (by decide +kernel) (by decide +kernel), ?_⟩
    refine ⟨_, rfl, 4, _, .d (.int 4), rfl, rfl, at_nat (n := 4) rfl, ?_⟩
    refine ⟨_, rfl, 2, _, .d (.int 2), rfl, rfl, at_nat (n := 2) rfl, ?_⟩
    refine ⟨Nat.le_of_ble_eq_true rfl, mkT_l (ds := [.int 2]) rfl ?_⟩
    refine c_pre0 A12 (i := 4) (k := 1) (vs := [2]) (by first | rfl | kernel_rfl) (fun m13 hm13 A13 => ?_)
    refine ⟨Nat.le_of_ble_eq_true rfl, [.tuple [.tuple [.int 9, .int 0], .tuple [.int 8, .int 1], .tuple [.int 0, .int 2]], .tuple [.tuple [.int 8, .int 3]], .none, .none], rfl, ?_⟩
    refine ⟨_, _, [.bool true, .bool true, .none, .int 1, .tuple [.tuple [.int 9, .int 0], .tuple [.int 8, .int 1]], .bool true, .none, .int 3, .tuple [.tuple [.int 9, .int 0], .tuple [.int 8, .int 1], .tuple [.int 0, .int 2]], .tuple [.tuple [.int 8, .int 3]], .none, .none], rfl, rfl, Nat.le_of_ble_eq_true rfl, rfl, ?_⟩
    refine ⟨_, rfl, 0, _, .d (.int 0), rfl, rfl, at_nat (n := 0) rfl, ?_⟩
    refine ⟨Nat.le_of_ble_eq_true rfl, mkT_l (ds := [.int 9, .int 0]) rfl ?_⟩
    refine ⟨_, rfl, 1, _, .d (.int 1), rfl, rfl, at_nat (n := 1) rfl, ?_⟩
    refine ⟨Nat.le_of_ble_eq_true rfl, mkT_l (ds := [.int 8, .int 1]) rfl ?_⟩
    refine ⟨Nat.le_of_ble_eq_true rfl, mkT_l (ds := [.tuple [.int 9, .int 0], .tuple [.int 8, .int 1]]) rfl ?_⟩
    refine ⟨_, rfl, 3, _, .d (.int 3), rfl, rfl, at_nat (n := 3) rfl, ?_⟩
    refine ⟨_, rfl, 0, _, .d (.int 0), rfl, rfl, at_nat (n := 0) rfl, ?_⟩
    refine ⟨Nat.le_of_ble_eq_true rfl, mkT_l (ds := [.int 9, .int 0]) rfl ?_⟩
    refine ⟨_, rfl, 1, _, .d (.int 1), rfl, rfl, at_nat (n := 1) rfl, ?_⟩
    refine ⟨Nat.le_of_ble_eq_true rfl, mkT_l (ds := [.int 8, .int 1]) rfl ?_⟩
    refine ⟨_, rfl, 2, _, .d (.int 2), rfl, rfl, at_nat (n := 2) rfl, ?_⟩
    refine ⟨Nat.le_of_ble_eq_true rfl, mkT_l (ds := [.int 0, .int 2]) rfl ?_⟩
    refine ⟨Nat.le_of_ble_eq_true rfl, mkT_l (ds := [.tuple [.int 9, .int 0], .tuple [.int 8, .int 1], .tuple [.int 0, .int 2]]) rfl ?_⟩
    refine ⟨Nat.le_of_ble_eq_true rfl, [.bool true, .bool true, .none, .int 1, .tuple [.tuple [.int 9, .int 0], .tuple [.int 8, .int 1]], .bool true, .none, .int 3, .tuple [.tuple [.int 9, .int 0], .tuple [.int 8, .int 1], .tuple [.int 0, .int 2]]], rfl, ?_⟩
    refine ⟨_, rfl, ?_⟩
    refine ⟨_, rfl, ?_⟩
    refine ⟨_, rfl, 3, _, .d (.int 3), rfl, rfl, at_nat (n := 3) rfl, ?_⟩
    refine ⟨Nat.le_of_ble_eq_true rfl, mkT_l (ds := [.int 8, .int 3]) rfl ?_⟩
    refine ⟨Nat.le_of_ble_eq_true rfl, mkT_l (ds := [.tuple [.int 8, .int 3]]) rfl ?_⟩
    refine ⟨Nat.le_of_ble_eq_true rfl, [.tuple [.tuple [.int 8, .int 3]], .none, .none], rfl, ?_⟩
    refine ⟨_, _, [.bool true, .bool true, .none, .int 1, .tuple [.tuple [.int 9, .int 0], .tuple [.int 8, .int 1]], .bool true, .none, .int 3, .tuple [.tuple [.int 9, .int 0], .tuple [.int 8, .int 1], .tuple [.int 0, .int 2]], .tuple [.tuple [.int 8, .int 3]], .none, .none], rfl, rfl, Nat.le_of_ble_eq_true rfl, rfl, ?_⟩
    exact ⟨.list [.bool true, .bool true, .none, .int 1, .tuple [.tuple [.int 9, .int 0], .tuple [.int 8, .int 1]], .bool true, .none, .int 3, .tuple [.tuple [.int 9, .int 0], .tuple [.int 8, .int 1], .tuple [.int 0, .int 2]], .tuple [.tuple [.int 8, .int 3]], .none, .none], rfl, ⟨by decide +kernel, by decide +kernel, by decide +kernel, by decide +kernel⟩, h _⟩
  · refine ⟨6, rfl, by decide, by decide, ?_⟩
    refine lc_rngE (fun i => .int (((0 + (i : Int)) + 1) % 6)) [.int 1, .int 2, .int 3, .int 4, .int 5, .int 0] (Nat.le_of_ble_eq_true rfl) rfl (fun i M hi hM C' N' hC => iteT ⟨_, rfl, _, rfl, (by decide : (0 : Int) < 6), hC M Mle.refl⟩) fun m0 hm0 => ?_
    refine fun a dx na => c_init (by decide) mu_same fun p m1 A1 => ⟨rfl, ?_⟩
    obtain ⟨dx1, ho1⟩ := A1.ob
    refine ⟨_, rfl, a, dx1, _, rfl, ho1, fl_no _ _ (by decide +kernel) (by decide +kernel), ?_⟩
    refine ⟨_, rfl, 0, _, .d (.int 1), rfl, rfl, at_nat (n := 0) rfl, ?_⟩
    refine c_req A1 (i := 1) (k := 9) (rs' := ([⟨9, 1, true⟩] : List Rq)) (b := true) rfl rfl (fun m2 hm2 A2 => ?_)
    obtain ⟨dx2, ho2⟩ := A2.ob
    refine ⟨_, rfl, a, dx2, _, rfl, ho2, fl_no _ _ (by decide +kernel) (by decide +kernel), ?_⟩
    refine ⟨_, rfl, 1, _, .d (.int 2), rfl, rfl, at_nat (n := 1) rfl, ?_⟩
    refine c_req A2 (i := 2) (k := 8) (rs' := ([⟨9, 1, true⟩, ⟨8, 2, true⟩] : List Rq)) (b := true) rfl rfl (fun m3 hm3 A3 => ?_)
    obtain ⟨dx3, ho3⟩ := A3.ob
    refine ⟨_, rfl, a, dx3, _, rfl, ho3, fl_no _ _ (by decide +kernel) (by decide +kernel), ?_⟩
    refine ⟨_, rfl, 2, _, .d (.int 3), rfl, rfl, at_nat (n := 2) rfl, ?_⟩
    refine ⟨_, rfl, 0, _, .d (.int 1), rfl, rfl, at_nat (n := 0) rfl, ?_⟩
    refine ⟨Nat.le_of_ble_eq_true rfl, mkT_l (ds := [.int 1]) rfl ?_⟩
    refine c_pre0 A3 (i := 3) (k := 0) (vs := [1]) (by first | rfl | kernel_rfl) (fun m4 hm4 A4 => ?_)
    obtain ⟨dx4, ho4⟩ := A4.ob
    refine ⟨_, rfl, a, dx4, _, rfl, ho4, c_free A4 (v := 1) rfl fun m5 hm5 A5 => ?_⟩
    obtain ⟨dx5, ho5⟩ := A5.ob
    refine ⟨_, rfl, a, dx5, _, rfl, ho5, fl_no _ _ (by decide +kernel) (by decide +kernel), ?_⟩
    refine c_hold A5 (L := [.tuple [.int 9, .int 1], .tuple [.int 8, .int 2]]) rfl (fun m6 hm6 A6 => ?_)
    refine ⟨Nat.le_of_ble_eq_true rfl, [.bool true, .bool true, .none, .int 1, .tuple [.tuple [.int 9, .int 1], .tuple [.int 8, .int 2]]], rfl, ?_⟩
    refine ⟨_, rfl, ?_⟩
    obtain ⟨dx6, ho6⟩ := A6.ob
    refine ⟨_, rfl, a, dx6, _, rfl, ho6, fl_no _ _ (by decide +kernel) (by decide +kernel), ?_⟩
    refine ⟨_, rfl, 3, _, .d (.int 4), rfl, rfl, at_nat (n := 3) rfl, ?_⟩
    refine c_req A6 (i := 4) (k := 8) (rs' := ([⟨9, 1, true⟩, ⟨8, 2, true⟩, ⟨8, 4, true⟩] : List Rq)) (b := true) rfl rfl (fun m7 hm7 A7 => ?_)
    obtain ⟨dx7, ho7⟩ := A7.ob
    refine ⟨_, rfl, a, dx7, _, rfl, ho7, fl_no _ _ (by decide +kernel) (by decide +kernel), ?_⟩
    refine ⟨_, rfl, 2, _, .d (.int 3), rfl, rfl, at_nat (n := 2) rfl, ?_⟩
    refine ⟨Nat.le_of_ble_eq_true rfl, mkT_l (ds := []) rfl ?_⟩
    refine c_pre0 A7 (i := 3) (k := 0) (vs := []) (by first | rfl | kernel_rfl) (fun m8 hm8 A8 => ?_)
    obtain ⟨dx8, ho8⟩ := A8.ob
    refine ⟨_, rfl, a, dx8, _, rfl, ho8, fl_no _ _ (by decide +kernel) (by decide +kernel), ?_⟩
    refine ⟨_, rfl, 2, _, .d (.int 3), rfl, rfl, at_nat (n := 2) rfl, ?_⟩
    refine ⟨_, rfl, 1, _, .d (.int 2), rfl, rfl, at_nat (n := 1) rfl, ?_⟩
    refine ⟨_, rfl, 3, _, .d (.int 4), rfl, rfl, at_nat (n := 3) rfl, ?_⟩
    refine ⟨_, rfl, 1, _, .d (.int 2), rfl, rfl, at_nat (n := 1) rfl, ?_⟩
    refine ⟨Nat.le_of_ble_eq_true rfl, mkT_l (ds := [.int 2, .int 4, .int 2]) rfl ?_⟩
    refine c_pre A8 (i := 3) (k := 0) (vs := [2, 4, 2]) (rs' := ([⟨9, 1, true⟩, ⟨8, 2, true⟩, ⟨8, 4, false⟩, ⟨0, 3, true⟩] : List Rq)) (v := 4) (by first | rfl | kernel_rfl) (fun m9 hm9 A9 => ?_)
    refine ⟨Nat.le_of_ble_eq_true rfl, [.bool true, .none, .int 4], rfl, ?_⟩
    refine ⟨_, _, [.bool true, .bool true, .none, .int 1, .tuple [.tuple [.int 9, .int 1], .tuple [.int 8, .int 2]], .bool true, .none, .int 4], rfl, rfl, Nat.le_of_ble_eq_true rfl, rfl, ?_⟩
    refine ⟨_, rfl, ?_⟩
    obtain ⟨dx9, ho9⟩ := A9.ob
    refine ⟨_, rfl, a, dx9, _, rfl, ho9, fl_no _ _ (by decide +kernel) (by decide +kernel), ?_⟩
    refine c_hold A9 (L := [.tuple [.int 9, .int 1], .tuple [.int 8, .int 2], .tuple [.int 0, .int 3]]) rfl (fun m10 hm10 A10 => ?_)
    obtain ⟨dx10, ho10⟩ := A10.ob
    refine ⟨_, rfl, a, dx10, _, rfl, ho10, fl_no _ _ (by decide +kernel) (by decide +kernel), ?_⟩
    refine c_wait A10 (L := [.tuple [.int 8, .int 4]]) (wait_c (sv_c (I := [2]) (L := [(8, 2)]) (by decide) (by decide) rfl) rfl) (fun m11 hm11 A11 => ?_)
    refine ⟨_, rfl, ?_⟩
    refine ⟨_, rfl, 3, _, .d (.int 4), rfl, rfl, at_nat (n := 3) rfl, ?_⟩
    refine c_lrel0 A11 (by rfl) fun m12 hm12 A12 => ?_
    obtain ⟨dx12, ho12⟩ := A12.ob
    refine ⟨_, rfl, a, dx12, _, rfl, ho12, fl_no _ _ (by decide +kernel) (by decide +kernel), ?_⟩
    refine ⟨_, rfl, 4, _, .d (.int 5), rfl, rfl, at_nat (n := 4) rfl, ?_⟩
    refine ⟨_, rfl, 2, _, .d (.int 3), rfl, rfl, at_nat (n := 2) rfl, ?_⟩
    refine ⟨Nat.le_of_ble_eq_true rfl, mkT_l (ds := [.int 3]) rfl ?_⟩
    refine c_pre0 A12 (i := 5) (k := 1) (vs := [3]) (by first | rfl | kernel_rfl) (fun m13 hm13 A13 => ?_)
    refine ⟨Nat.le_of_ble_eq_true rfl, [.tuple [.tuple [.int 9, .int 1], .tuple [.int 8, .int 2], .tuple [.int 0, .int 3]], .tuple [.tuple [.int 8, .int 4]], .none, .none], rfl, ?_⟩
    refine ⟨_, _, [.bool true, .bool true, .none, .int 1, .tuple [.tuple [.int 9, .int 1], .tuple [.int 8, .int 2]], .bool true, .none, .int 4, .tuple [.tuple [.int 9, .int 1], .tuple [.int 8, .int 2], .tuple [.int 0, .int 3]], .tuple [.tuple [.int 8, .int 4]], .none, .none], rfl, rfl, Nat.le_of_ble_eq_true rfl, rfl, ?_⟩
    refine ⟨_, rfl, 0, _, .d (.int 1), rfl, rfl, at_nat (n := 0) rfl, ?_⟩
    refine ⟨Nat.le_of_ble_eq_true rfl, mkT_l (ds := [.int 9, .int 1]) rfl ?_⟩
    refine ⟨_, rfl, 1, _, .d (.int 2), rfl, rfl, at_nat (n := 1) rfl, ?_⟩
    refine ⟨Nat.le_of_ble_eq_true rfl, mkT_l (ds := [.int 8, .int 2]) rfl ?_⟩
    refine ⟨Nat.le_of_ble_eq_true rfl, mkT_l (ds := [.tuple [.int 9, .int 1], .tuple [.int 8, .int 2]]) rfl ?_⟩
    refine ⟨_, rfl, 3, _, .d (.int 4), rfl, rfl, at_nat (n := 3) rfl, ?_⟩
    refine ⟨_, rfl, 0, _, .d (.int 1), rfl, rfl, at_nat (n := 0) rfl, ?_⟩
    refine ⟨Nat.le_of_ble_eq_true rfl, mkT_l (ds := [.int 9, .int 1]) rfl ?_⟩
    refine ⟨_, rfl, 1, _, .d (.int 2), rfl, rfl, at_nat (n := 1) rfl, ?_⟩
    refine ⟨Nat.le_of_ble_eq_true rfl, mkT_l (ds := [.int 8, .int 2]) rfl ?_⟩
    refine ⟨_, rfl, 2, _, .d (.int 3), rfl, rfl, at_nat (n := 2) rfl, ?_⟩
    refine ⟨Nat.le_of_ble_eq_true rfl, mkT_l (ds := [.int 0, .int 3]) rfl ?_⟩
    refine ⟨Nat.le_of_ble_eq_true rfl, mkT_l (ds := [.tuple [.int 9, .int 1], .tuple [.int 8, .int 2], .tuple [.int 0, .int 3]]) rfl ?_⟩
    refine ⟨Nat.le_of_ble_eq_true rfl, [.bool true, .bool true, .none, .int 1, .tuple [.tuple [.int 9, .int 1], .tuple [.int 8, .int 2]], .bool true, .none, .int 4, .tuple [.tuple [.int 9, .int 1], .tuple [.int 8, .int 2], .tuple [.int 0, .int 3]]], rfl, ?_⟩
    refine ⟨_, rfl, ?_⟩
    refine ⟨_, rfl, ?_⟩
    refine ⟨_, rfl, 3, _, .d (.int 4), rfl, rfl, at_nat (n := 3) rfl, ?_⟩
    refine ⟨Nat.le_of_ble_eq_true rfl, mkT_l (ds := [.int 8, .int 4]) rfl ?_⟩
    refine ⟨Nat.le_of_ble_eq_true rfl, mkT_l (ds := [.tuple [.int 8, .int 4]]) rfl ?_⟩
    refine ⟨Nat.le_of_ble_eq_true rfl, [.tuple [.tuple [.int 8, .int 4]], .none, .none], rfl, ?_⟩
    refine ⟨_, _, [.bool true, .bool true, .none, .int 1, .tuple [.tuple [.int 9, .int 1], .tuple [.int 8, .int 2]], .bool true, .none, .int 4, .tuple [.tuple [.int 9, .int 1], .tuple [.int 8, .int 2], .tuple [.int 0, .int 3]], .tuple [.tuple [.int 8, .int 4]], .none, .none], rfl, rfl, Nat.le_of_ble_eq_true rfl, rfl, ?_⟩
    exact ⟨.list [.bool true, .bool true, .none, .int 1, .tuple [.tuple [.int 9, .int 1], .tuple [.int 8, .int 2]], .bool true, .none, .int 4, .tuple [.tuple [.int 9, .int 1], .tuple [.int 8, .int 2], .tuple [.int 0, .int 3]], .tuple [.tuple [.int 8, .int 4]], .none, .none], rfl, ⟨by decide +kernel, by decide +kernel, by decide +kernel, by decide +kernel⟩, h _⟩
  · refine ⟨6, rfl, by decide, by decide, ?_⟩
    refine lc_rngE (fun i => .int (((0 + (i : Int)) + 2) % 6)) [.int 2, .int 3, .int 4, .int 5, .int 0, .int 1] (Nat.le_of_ble_eq_true rfl) rfl (fun i M hi hM C' N' hC => iteT ⟨_, rfl, _, rfl, (by decide : (0 : Int) < 6), hC M Mle.refl⟩) fun m0 hm0 => ?_
    refine fun a dx na => c_init (by decide) mu_same fun p m1 A1 => ⟨rfl, ?_⟩
    obtain ⟨dx1, ho1⟩ := A1.ob
    refine ⟨_, rfl, a, dx1, _, rfl, ho1, fl_no _ _ (by decide +kernel) (by decide +kernel), ?_⟩
    refine ⟨_, rfl, 0, _, .d (.int 2), rfl, rfl, at_nat (n := 0) rfl, ?_⟩
    refine c_req A1 (i := 2) (k := 9) (rs' := ([⟨9, 2, true⟩] : List Rq)) (b := true) rfl rfl (fun m2 hm2 A2 => ?_)
    obtain ⟨dx2, ho2⟩ := A2.ob
    refine ⟨_, rfl, a, dx2, _, rfl, ho2, fl_no _ _ (by decide +kernel) (by decide +kernel), ?_⟩
    refine ⟨_, rfl, 1, _, .d (.int 3), rfl, rfl, at_nat (n := 1) rfl, ?_⟩
    refine c_req A2 (i := 3) (k := 8) (rs' := ([⟨9, 2, true⟩, ⟨8, 3, true⟩] : List Rq)) (b := true) rfl rfl (fun m3 hm3 A3 => ?_)
    obtain ⟨dx3, ho3⟩ := A3.ob
    refine ⟨_, rfl, a, dx3, _, rfl, ho3, fl_no _ _ (by decide +kernel) (by decide +kernel), ?_⟩
    refine ⟨_, rfl, 2, _, .d (.int 4), rfl, rfl, at_nat (n := 2) rfl, ?_⟩
    refine ⟨_, rfl, 0, _, .d (.int 2), rfl, rfl, at_nat (n := 0) rfl, ?_⟩
    refine ⟨Nat.le_of_ble_eq_true rfl, mkT_l (ds := [.int 2]) rfl ?_⟩
    refine c_pre0 A3 (i := 4) (k := 0) (vs := [2]) (by first | rfl | kernel_rfl) (fun m4 hm4 A4 => ?_)
    obtain ⟨dx4, ho4⟩ := A4.ob
    refine ⟨_, rfl, a, dx4, _, rfl, ho4, c_free A4 (v := 1) rfl fun m5 hm5 A5 => ?_⟩
    obtain ⟨dx5, ho5⟩ := A5.ob
    refine ⟨_, rfl, a, dx5, _, rfl, ho5, fl_no _ _ (by decide +kernel) (by decide +kernel), ?_⟩
    refine c_hold A5 (L := [.tuple [.int 9, .int 2], .tuple [.int 8, .int 3]]) rfl (fun m6 hm6 A6 => ?_)
    refine ⟨Nat.le_of_ble_eq_true rfl, [.bool true, .bool true, .none, .int 1, .tuple [.tuple [.int 9, .int 2], .tuple [.int 8, .int 3]]], rfl, ?_⟩
    refine ⟨_, rfl, ?_⟩
    obtain ⟨dx6, ho6⟩ := A6.ob
    refine ⟨_, rfl, a, dx6, _, rfl, ho6, fl_no _ _ (by decide +kernel) (by decide +kernel), ?_⟩
    refine ⟨_, rfl, 3, _, .d (.int 5), rfl, rfl, at_nat (n := 3) rfl, ?_⟩
    refine c_req A6 (i := 5) (k := 8) (rs' := ([⟨9, 2, true⟩, ⟨8, 3, true⟩, ⟨8, 5, true⟩] : List Rq)) (b := true) rfl rfl (fun m7 hm7 A7 => ?_)
    obtain ⟨dx7, ho7⟩ := A7.ob
    refine ⟨_, rfl, a, dx7, _, rfl, ho7, fl_no _ _ (by decide +kernel) (by decide +kernel), ?_⟩
    refine ⟨_, rfl, 2, _, .d (.int 4), rfl, rfl, at_nat (n := 2) rfl, ?_⟩
    refine ⟨Nat.le_of_ble_eq_true rfl, mkT_l (ds := []) rfl ?_⟩
    refine c_pre0 A7 (i := 4) (k := 0) (vs := []) (by first | rfl | kernel_rfl) (fun m8 hm8 A8 => ?_)
    obtain ⟨dx8, ho8⟩ := A8.ob
    refine ⟨_, rfl, a, dx8, _, rfl, ho8, fl_no _ _ (by decide +kernel) (by decide +kernel), ?_⟩
    refine ⟨_, rfl, 2, _, .d (.int 4), rfl, rfl, at_nat (n := 2) rfl, ?_⟩
    refine ⟨_, rfl, 1, _, .d (.int 3), rfl, rfl, at_nat (n := 1) rfl, ?_⟩
    refine ⟨_, rfl, 3, _, .d (.int 5), rfl, rfl, at_nat (n := 3) rfl, ?_⟩
    refine ⟨_, rfl, 1, _, .d (.int 3), rfl, rfl, at_nat (n := 1) rfl, ?_⟩
    refine ⟨Nat.le_of_ble_eq_true rfl, mkT_l (ds := [.int 3, .int 5, .int 3]) rfl ?_⟩
    refine c_pre A8 (i := 4) (k := 0) (vs := [3, 5, 3]) (rs' := ([⟨9, 2, true⟩, ⟨8, 3, true⟩, ⟨8, 5, false⟩, ⟨0, 4, true⟩] : List Rq)) (v := 5) (by first | rfl | kernel_rfl) (fun m9 hm9 A9 => ?_)
    refine ⟨Nat.le_of_ble_eq_true rfl, [.bool true, .none, .int 5], rfl, ?_⟩
    refine ⟨_, _, [.bool true, .bool true, .none, .int 1, .tuple [.tuple [.int 9, .int 2], .tuple [.int 8, .int 3]], .bool true, .none, .int 5], rfl, rfl, Nat.le_of_ble_eq_true rfl, rfl, ?_⟩
    refine ⟨_, rfl, ?_⟩
    obtain ⟨dx9, ho9⟩ := A9.ob
    refine ⟨_, rfl, a, dx9, _, rfl, ho9, fl_no _ _ (by decide +kernel) (by decide +kernel), ?_⟩
    refine c_hold A9 (L := [.tuple [.int 9, .int 2], .tuple [.int 8, .int 3], .tuple [.int 0, .int 4]]) rfl (fun m10 hm10 A10 => ?_)
    obtain ⟨dx10, ho10⟩ := A10.ob
    refine ⟨_, rfl, a, dx10, _, rfl, ho10, fl_no _ _ (by decide +kernel) (by decide +kernel), ?_⟩
    refine c_wait A10 (L := [.tuple [.int 8, .int 5]]) (wait_c (sv_c (I := [2]) (L := [(8, 2)]) (by decide) (by decide) rfl) rfl) (fun m11 hm11 A11 => ?_)
    refine ⟨_, rfl, ?_⟩
    refine ⟨_, rfl, 3, _, .d (.int 5), rfl, rfl, at_nat (n := 3) rfl, ?_⟩
    refine c_lrel0 A11 (by rfl) fun m12 hm12 A12 => ?_
    obtain ⟨dx12, ho12⟩ := A12.ob
    refine ⟨_, rfl, a, dx12, _, rfl, ho12, fl_no _ _ (by decide +kernel) (by decide +kernel), ?_⟩
    refine ⟨_, rfl, 4, _, .d (.int 0), rfl, rfl, at_nat (n := 4) rfl, ?_⟩
    refine ⟨_, rfl, 2, _, .d (.int 4), rfl, rfl, at_nat (n := 2) rfl, ?_⟩
    refine ⟨Nat.le_of_ble_eq_true rfl, mkT_l (ds := [.int 4]) rfl ?_⟩
    refine c_pre0 A12 (i := 0) (k := 1) (vs := [4]) (by first | rfl | kernel_rfl) (fun m13 hm13 A13 => ?_)
    refine ⟨Nat.le_of_ble_eq_true rfl, [.tuple [.tuple [.int 9, .int 2], .tuple [.int 8, .int 3], .tuple [.int 0, .int 4]], .tuple [.tuple [.int 8, .int 5]], .none, .none], rfl, ?_⟩
    refine ⟨_, _, [.bool true, .bool true, .none, .int 1, .tuple [.tuple [.int 9, .int 2], .tuple [.int 8, .int 3]], .bool true, .none, .int 5, .tuple [.tuple [.int 9, .int 2], .tuple [.int 8, .int 3], .tuple [.int 0, .int 4]], .tuple [.tuple [.int 8, .int 5]], .none, .none], rfl, rfl, Nat.le_of_ble_eq_true rfl, rfl, ?_⟩
    refine ⟨_, rfl, 0, _, .d (.int 2), rfl, rfl, at_nat (n := 0) rfl, ?_⟩
    refine ⟨Nat.le_of_ble_eq_true rfl, mkT_l (ds := [.int 9, .int 2]) rfl ?_⟩
    refine ⟨_, rfl, 1, _, .d (.int 3), rfl, rfl, at_nat (n := 1) rfl, ?_⟩
    refine ⟨Nat.le_of_ble_eq_true rfl, mkT_l (ds := [.int 8, .int 3]) rfl ?_⟩
    refine ⟨Nat.le_of_ble_eq_true rfl, mkT_l (ds := [.tuple [.int 9, .int 2], .tuple [.int 8, .int 3]]) rfl ?_⟩
    refine ⟨_, rfl, 3, _, .d (.int 5), rfl, rfl, at_nat (n := 3) rfl, ?_⟩
    refine ⟨_, rfl, 0, _, .d (.int 2), rfl, rfl, at_nat (n := 0) rfl, ?_⟩
    refine ⟨Nat.le_of_ble_eq_true rfl, mkT_l (ds := [.int 9, .int 2]) rfl ?_⟩
    refine ⟨_, rfl, 1, _, .d (.int 3), rfl, rfl, at_nat (n := 1) rfl, ?_⟩
    refine ⟨Nat.le_of_ble_eq_true rfl, mkT_l (ds := [.int 8, .int 3]) rfl ?_⟩
    refine ⟨_, rfl, 2, _, .d (.int 4), rfl, rfl, at_nat (n := 2) rfl, ?_⟩
    refine ⟨Nat.le_of_ble_eq_true rfl, mkT_l (ds := [.int 0, .int 4]) rfl ?_⟩
    refine ⟨Nat.le_of_ble_eq_true rfl, mkT_l (ds := [.tuple [.int 9, .int 2], .tuple [.int 8, .int 3], .tuple [.int 0, .int 4]]) rfl ?_⟩
    refine ⟨Nat.le_of_ble_eq_true rfl, [.bool true, .bool true, .none, .int 1, .tuple [.tuple [.int 9, .int 2], .tuple [.int 8, .int 3]], .bool true, .none, .int 5, .tuple [.tuple [.int 9, .int 2], .tuple [.int 8, .int 3], .tuple [.int 0, .int 4]]], rfl, ?_⟩
    refine ⟨_, rfl, ?_⟩
    refine ⟨_, rfl, ?_⟩
    refine ⟨_, rfl, 3, _, .d (.int 5), rfl, rfl, at_nat (n := 3) rfl, ?_⟩
    refine ⟨Nat.le_of_ble_eq_true rfl, mkT_l (ds := [.int 8, .int 5]) rfl ?_⟩
    refine ⟨Nat.le_of_ble_eq_true rfl, mkT_l (ds := [.tuple [.int 8, .int 5]]) rfl ?_⟩
    refine ⟨Nat.le_of_ble_eq_true rfl, [.tuple [.tuple [.int 8, .int 5]], .none, .none], rfl, ?_⟩
    refine ⟨_, _, [.bool true, .bool true, .none, .int 1, .tuple [.tuple [.int 9, .int 2], .tuple [.int 8, .int 3]], .bool true, .none, .int 5, .tuple [.tuple [.int 9, .int 2], .tuple [.int 8, .int 3], .tuple [.int 0, .int 4]], .tuple [.tuple [.int 8, .int 5]], .none, .none], rfl, rfl, Nat.le_of_ble_eq_true rfl, rfl, ?_⟩
    exact ⟨.list [.bool true, .bool true, .none, .int 1, .tuple [.tuple [.int 9, .int 2], .tuple [.int 8, .int 3]], .bool true, .none, .int 5, .tuple [.tuple [.int 9, .int 2], .tuple [.int 8, .int 3], .tuple [.int 0, .int 4]], .tuple [.tuple [.int 8, .int 5]], .none, .none], rfl, ⟨by decide +kernel, by decide +kernel, by decide +kernel, by decide +kernel⟩, h _⟩
  · refine ⟨6, rfl, by decide, by decide, ?_⟩
    refine lc_rngE (fun i => .int (((0 + (i : Int)) + 3) % 6)) [.int 3, .int 4, .int 5, .int 0, .int 1, .int 2] (Nat.le_of_ble_eq_true rfl) rfl (fun i M hi hM C' N' hC => iteT ⟨_, rfl, _, rfl, (by decide : (0 : Int) < 6), hC M Mle.refl⟩) fun m0 hm0 => ?_
    refine fun a dx na => c_init (by decide) mu_same fun p m1 A1 => ⟨rfl, ?_⟩
    obtain ⟨dx1, ho1⟩ := A1.ob
    refine ⟨_, rfl, a, dx1, _, rfl, ho1, fl_no _ _ (by decide +kernel) (by decide +kernel), ?_⟩
    refine ⟨_, rfl, 0, _, .d (.int 3), rfl, rfl, at_nat (n := 0) rfl, ?_⟩
    refine c_req A1 (i := 3) (k := 9) (rs' := ([⟨9, 3, true⟩] : List Rq)) (b := true) rfl rfl (fun m2 hm2 A2 => ?_)
    obtain ⟨dx2, ho2⟩ := A2.ob
    refine ⟨_, rfl, a, dx2, _, rfl, ho2, fl_no _ _ (by decide +kernel) (by decide +kernel), ?_⟩
    refine ⟨_, rfl, 1, _, .d (.int 4), rfl, rfl, at_nat (n := 1) rfl, ?_⟩
    refine c_req A2 (i := 4) (k := 8) (rs' := ([⟨9, 3, true⟩, ⟨8, 4, true⟩] : List Rq)) (b := true) rfl rfl (fun m3 hm3 A3 => ?_)
    obtain ⟨dx3, ho3⟩ := A3.ob
    refine ⟨_, rfl, a, dx3, _, rfl, ho3, fl_no _ _ (by decide +kernel) (by decide +kernel), ?_⟩
    refine ⟨_, rfl, 2, _, .d (.int 5), rfl, rfl, at_nat (n := 2) rfl, ?_⟩
    refine ⟨_, rfl, 0, _, .d (.int 3), rfl, rfl, at_nat (n := 0) rfl, ?_⟩
    refine ⟨Nat.le_of_ble_eq_true rfl, mkT_l (ds := [.int 3]) rfl ?_⟩
    refine c_pre0 A3 (i := 5) (k := 0) (vs := [3]) (by first | rfl | kernel_rfl) (fun m4 hm4 A4 => ?_)
    obtain ⟨dx4, ho4⟩ := A4.ob
    refine ⟨_, rfl, a, dx4, _, rfl, ho4, c_free A4 (v := 1) rfl fun m5 hm5 A5 => ?_⟩
    obtain ⟨dx5, ho5⟩ := A5.ob
    refine ⟨_, rfl, a, dx5, _, rfl, ho5, fl_no _ _ (by decide +kernel) (by decide +kernel), ?_⟩
    refine c_hold A5 (L := [.tuple [.int 9, .int 3], .tuple [.int 8, .int 4]]) rfl (fun m6 hm6 A6 => ?_)
    refine ⟨Nat.le_of_ble_eq_true rfl, [.bool true, .bool true, .none, .int 1, .tuple [.tuple [.int 9, .int 3], .tuple [.int 8, .int 4]]], rfl, ?_⟩
    refine ⟨_, rfl, ?_⟩
    obtain ⟨dx6, ho6⟩ := A6.ob
    refine ⟨_, rfl, a, dx6, _, rfl, ho6, fl_no _ _ (by decide +kernel) (by decide +kernel), ?_⟩
    refine ⟨_, rfl, 3, _, .d (.int 0), rfl, rfl, at_nat (n := 3) rfl, ?_⟩
    refine c_req A6 (i := 0) (k := 8) (rs' := ([⟨9, 3, true⟩, ⟨8, 4, true⟩, ⟨8, 0, true⟩] : List Rq)) (b := true) rfl rfl (fun m7 hm7 A7 => ?_)
    obtain ⟨dx7, ho7⟩ := A7.ob
    refine ⟨_, rfl, a, dx7, _, rfl, ho7, fl_no _ _ (by decide +kernel) (by decide +kernel), ?_⟩
    refine ⟨_, rfl, 2, _, .d (.int 5), rfl, rfl, at_nat (n := 2) rfl, ?_⟩
    refine ⟨Nat.le_of_ble_eq_true rfl, mkT_l (ds := []) rfl ?_⟩
    refine c_pre0 A7 (i := 5) (k := 0) (vs := []) (by first | rfl | kernel_rfl) (fun m8 hm8 A8 => ?_)
    obtain ⟨dx8, ho8⟩ := A8.ob
    refine ⟨_, rfl, a, dx8, _, rfl, ho8, fl_no _ _ (by decide +kernel) (by decide +kernel), ?_⟩
    refine ⟨_, rfl, 2, _, .d (.int 5), rfl, rfl, at_nat (n := 2) rfl, ?_⟩
    refine ⟨_, rfl, 1, _, .d (.int 4), rfl, rfl, at_nat (n := 1) rfl, ?_⟩
    refine ⟨_, rfl, 3, _, .d (.int 0), rfl, rfl, at_nat (n := 3) rfl, ?_⟩
    refine ⟨_, rfl, 1, _, .d (.int 4), rfl, rfl, at_nat (n := 1) rfl, ?_⟩
    refine ⟨Nat.le_of_ble_eq_true rfl, mkT_l (ds := [.int 4, .int 0, .int 4]) rfl ?_⟩
    refine c_pre A8 (i := 5) (k := 0) (vs := [4, 0, 4]) (rs' := ([⟨9, 3, true⟩, ⟨8, 4, true⟩, ⟨8, 0, false⟩, ⟨0, 5, true⟩] : List Rq)) (v := 0) (by first | rfl | kernel_rfl) (fun m9 hm9 A9 => ?_)
    refine ⟨Nat.le_of_ble_eq_true rfl, [.bool true, .none, .int 0], rfl, ?_⟩
    refine ⟨_, _, [.bool true, .bool true, .none, .int 1, .tuple [.tuple [.int 9, .int 3], .tuple [.int 8, .int 4]], .bool true, .none, .int 0], rfl, rfl, Nat.le_of_ble_eq_true rfl, rfl, ?_⟩
    refine ⟨_, rfl, ?_⟩
    obtain ⟨dx9, ho9⟩ := A9.ob
    refine ⟨_, rfl, a, dx9, _, rfl, ho9, fl_no _ _ (by decide +kernel) (by decide +kernel), ?_⟩
    refine c_hold A9 (L := [.tuple [.int 9, .int 3], .tuple [.int 8, .int 4], .tuple [.int 0, .int 5]]) rfl (fun m10 hm10 A10 => ?_)
    obtain ⟨dx10, ho10⟩ := A10.ob
    refine ⟨_, rfl, a, dx10, _, rfl, ho10, fl_no _ _ (by decide +kernel) (by decide +kernel), ?_⟩
    refine c_wait A10 (L := [.tuple [.int 8, .int 0]]) (wait_c (sv_c (I := [2]) (L := [(8, 2)]) (by decide) (by decide) rfl) rfl) (fun m11 hm11 A11 => ?_)
    refine ⟨_, rfl, ?_⟩
    refine ⟨_, rfl, 3, _, .d (.int 0), rfl, rfl, at_nat (n := 3) rfl, ?_⟩
    refine c_lrel0 A11 (by rfl) fun m12 hm12 A12 => ?_
    obtain ⟨dx12, ho12⟩ := A12.ob
    refine ⟨_, rfl, a, dx12, _, rfl, ho12, fl_no _ _ (by decide +kernel) (by decide +kernel), ?_⟩
    refine ⟨_, rfl, 4, _, .d (.int 1), rfl, rfl, at_nat (n := 4) rfl, ?_⟩
    refine ⟨_, rfl, 2, _, .d (.int 5), rfl, rfl, at_nat (n := 2) rfl, ?_⟩
    refine ⟨Nat.le_of_ble_eq_true rfl, mkT_l (ds := [.int 5]) rfl ?_⟩
    refine c_pre0 A12 (i := 1) (k := 1) (vs := [5]) (by first | rfl | kernel_rfl) (fun m13 hm13 A13 => ?_)
    refine ⟨Nat.le_of_ble_eq_true rfl, [.tuple [.tuple [.int 9, .int 3], .tuple [.int 8, .int 4], .tuple [.int 0, .int 5]], .tuple [.tuple [.int 8, .int 0]], .none, .none], rfl, ?_⟩
    refine ⟨_, _, [.bool true, .bool true, .none, .int 1, .tuple [.tuple [.int 9, .int 3], .tuple [.int 8, .int 4]], .bool true, .none, .int 0, .tuple [.tuple [.int 9, .int 3], .tuple [.int 8, .int 4], .tuple [.int 0, .int 5]], .tuple [.tuple [.int 8, .int 0]], .none, .none], rfl, rfl, Nat.le_of_ble_eq_true rfl, rfl, ?_⟩
    refine ⟨_, rfl, 0, _, .d (.int 3), rfl, rfl, at_nat (n := 0) rfl, ?_⟩
    refine ⟨Nat.le_of_ble_eq_true rfl, mkT_l (ds := [.int 9, .int 3]) rfl ?_⟩
    refine ⟨_, rfl, 1, _, .d (.int 4), rfl, rfl, at_nat (n := 1) rfl, ?_⟩
    refine ⟨Nat.le_of_ble_eq_true rfl, mkT_l (ds := [.int 8, .int 4]) rfl ?_⟩
    refine ⟨Nat.le_of_ble_eq_true rfl, mkT_l (ds := [.tuple [.int 9, .int 3], .tuple [.int 8, .int 4]]) rfl ?_⟩
    refine ⟨_, rfl, 3, _, .d (.int 0), rfl, rfl, at_nat (n := 3) rfl, ?_⟩
    refine ⟨_, rfl, 0, _, .d (.int 3), rfl, rfl, at_nat (n := 0) rfl, ?_⟩
    refine ⟨Nat.le_of_ble_eq_true rfl, mkT_l (ds := [.int 9, .int 3]) rfl ?_⟩
    refine ⟨_, rfl, 1, _, .d (.int 4), rfl, rfl, at_nat (n := 1) rfl, ?_⟩
    refine ⟨Nat.le_of_ble_eq_true rfl, mkT_l (ds := [.int 8, .int 4]) rfl ?_⟩
    refine ⟨_, rfl, 2, _, .d (.int 5), rfl, rfl, at_nat (n := 2) rfl, ?_⟩
    refine ⟨Nat.le_of_ble_eq_true rfl, mkT_l (ds := [.int 0, .int 5]) rfl ?_⟩
    refine ⟨Nat.le_of_ble_eq_true rfl, mkT_l (ds := [.tuple [.int 9, .int 3], .tuple [.int 8, .int 4], .tuple [.int 0, .int 5]]) rfl ?_⟩
    refine ⟨Nat.le_of_ble_eq_true rfl, [.bool true, .bool true, .none, .int 1, .tuple [.tuple [.int 9, .int 3], .tuple [.int 8, .int 4]], .bool true, .none, .int 0, .tuple [.tuple [.int 9, .int 3], .tuple [.int 8, .int 4], .tuple [.int 0, .int 5]]], rfl, ?_⟩
    refine ⟨_, rfl, ?_⟩
    refine ⟨_, rfl, ?_⟩
    refine ⟨_, rfl, 3, _, .d (.int 0), rfl, rfl, at_nat (n := 3) rfl, ?_⟩
    refine ⟨Nat.le_of_ble_eq_true rfl, mkT_l (ds := [.int 8, .int 0]) rfl ?_⟩
    refine ⟨Nat.le_of_ble_eq_true rfl, mkT_l (ds := [.tuple [.int 8, .int 0]]) rfl ?_⟩
    refine ⟨Nat.le_of_ble_eq_true rfl, [.tuple [.tuple [.int 8, .int 0]], .none, .none], rfl, ?_⟩
    refine ⟨_, _, [.bool true, .bool true, .none, .int 1, .tuple [.tuple [.int 9, .int 3], .tuple [.int 8, .int 4]], .bool true, .none, .int 0, .tuple [.tuple [.int 9, .int 3], .tuple [.int 8, .int 4], .tuple [.int 0, .int 5]], .tuple [.tuple [.int 8, .int 0]], .none, .none], rfl, rfl, Nat.le_of_ble_eq_true rfl, rfl, ?_⟩
    exact ⟨.list [.bool true, .bool true, .none, .int 1, .tuple [.tuple [.int 9, .int 3], .tuple [.int 8, .int 4]], .bool true, .none, .int 0, .tuple [.tuple [.int 9, .int 3], .tuple [.int 8, .int 4], .tuple [.int 0, .int 5]], .tuple [.tuple [.int 8, .int 0]], .none, .none], rfl, ⟨by decide +kernel, by decide +kernel, by decide +kernel, by decide +kernel⟩, h _⟩
  · refine ⟨6, rfl, by decide, by decide, ?_⟩
    refine lc_rngE (fun i => .int (((0 + (i : Int)) + 4) % 6)) [.int 4, .int 5, .int 0, .int 1, .int 2, .int 3] (Nat.le_of_ble_eq_true rfl) rfl (fun i M hi hM C' N' hC => iteT ⟨_, rfl, _, rfl, (by decide : (0 : Int) < 6), hC M Mle.refl⟩) fun m0 hm0 => ?_
    refine fun a dx na => c_init (by decide) mu_same fun p m1 A1 => ⟨rfl, ?_⟩
    obtain ⟨dx1, ho1⟩ := A1.ob
    refine ⟨_, rfl, a, dx1, _, rfl, ho1, fl_no _ _ (by decide +kernel) (by decide +kernel), ?_⟩
    refine ⟨_, rfl, 0, _, .d (.int 4), rfl, rfl, at_nat (n := 0) rfl, ?_⟩
    refine c_req A1 (i := 4) (k := 9) (rs' := ([⟨9, 4, true⟩] : List Rq)) (b := true) rfl rfl (fun m2 hm2 A2 => ?_)
    obtain ⟨dx2, ho2⟩ := A2.ob
    refine ⟨_, rfl, a, dx2, _, rfl, ho2, fl_no _ _ (by decide +kernel) (by decide +kernel), ?_⟩
    refine ⟨_, rfl, 1, _, .d (.int 5), rfl, rfl, at_nat (n := 1) rfl, ?_⟩
    refine c_req A2 (i := 5) (k := 8) (rs' := ([⟨9, 4, true⟩, ⟨8, 5, true⟩] : List Rq)) (b := true) rfl rfl (fun m3 hm3 A3 => ?_)
    obtain ⟨dx3, ho3⟩ := A3.ob
    refine ⟨_, rfl, a, dx3, _, rfl, ho3, fl_no _ _ (by decide +kernel) (by decide +kernel), ?_⟩
    refine ⟨_, rfl, 2, _, .d (.int 0), rfl, rfl, at_nat (n := 2) rfl, ?_⟩
    refine ⟨_, rfl, 0, _, .d (.int 4), rfl, rfl, at_nat (n := 0) rfl, ?_⟩
    refine ⟨Nat.le_of_ble_eq_true rfl, mkT_l (ds := [.int 4]) rfl ?_⟩
    refine c_pre0 A3 (i := 0) (k := 0) (vs := [4]) (by first | rfl | kernel_rfl) (fun m4 hm4 A4 => ?_)
    obtain ⟨dx4, ho4⟩ := A4.ob
    refine ⟨_, rfl, a, dx4, _, rfl, ho4, c_free A4 (v := 1) rfl fun m5 hm5 A5 => ?_⟩
    obtain ⟨dx5, ho5⟩ := A5.ob
    refine ⟨_, rfl, a, dx5, _, rfl, ho5, fl_no _ _ (by decide +kernel) (by decide +kernel), ?_⟩
    refine c_hold A5 (L := [.tuple [.int 9, .int 4], .tuple [.int 8, .int 5]]) rfl (fun m6 hm6 A6 => ?_)
    refine ⟨Nat.le_of_ble_eq_true rfl, [.bool true, .bool true, .none, .int 1, .tuple [.tuple [.int 9, .int 4], .tuple [.int 8, .int 5]]], rfl, ?_⟩
    refine ⟨_, rfl, ?_⟩
    obtain ⟨dx6, ho6⟩ := A6.ob
    refine ⟨_, rfl, a, dx6, _, rfl, ho6, fl_no _ _ (by decide +kernel) (by decide +kernel), ?_⟩
    refine ⟨_, rfl, 3, _, .d (.int 1), rfl, rfl, at_nat (n := 3) rfl, ?_⟩
    refine c_req A6 (i := 1) (k := 8) (rs' := ([⟨9, 4, true⟩, ⟨8, 5, true⟩, ⟨8, 1, true⟩] : List Rq)) (b := true) rfl rfl (fun m7 hm7 A7 => ?_)
    obtain ⟨dx7, ho7⟩ := A7.ob
    refine ⟨_, rfl, a, dx7, _, rfl, ho7, fl_no _ _ (by decide +kernel) (by decide +kernel), ?_⟩
    refine ⟨_, rfl, 2, _, .d (.int 0), rfl, rfl, at_nat (n := 2) rfl, ?_⟩
    refine ⟨Nat.le_of_ble_eq_true rfl, mkT_l (ds := []) rfl ?_⟩
    refine c_pre0 A7 (i := 0) (k := 0) (vs := []) (by first | rfl | kernel_rfl) (fun m8 hm8 A8 => ?_)
    obtain ⟨dx8, ho8⟩ := A8.ob
    refine ⟨_, rfl, a, dx8, _, rfl, ho8, fl_no _ _ (by decide +kernel) (by decide +kernel), ?_⟩
    refine ⟨_, rfl, 2, _, .d (.int 0), rfl, rfl, at_nat (n := 2) rfl, ?_⟩
    refine ⟨_, rfl, 1, _, .d (.int 5), rfl, rfl, at_nat (n := 1) rfl, ?_⟩
    refine ⟨_, rfl, 3, _, .d (.int 1), rfl, rfl, at_nat (n := 3) rfl, ?_⟩
    refine ⟨_, rfl, 1, _, .d (.int 5), rfl, rfl, at_nat (n := 1) rfl, ?_⟩
    refine ⟨Nat.le_of_ble_eq_true rfl, mkT_l (ds := [.int 5, .int 1, .int 5]) rfl ?_⟩
    refine c_pre A8 (i := 0) (k := 0) (vs := [5, 1, 5]) (rs' := ([⟨9, 4, true⟩, ⟨8, 5, true⟩, ⟨8, 1, false⟩, ⟨0, 0, true⟩] : List Rq)) (v := 1) (by first | rfl | kernel_rfl) (fun m9 hm9 A9 => ?_)
    refine ⟨Nat.le_of_ble_eq_true rfl, [.bool true, .none, .int 1], rfl, ?_⟩
    refine ⟨_, _, [.bool true, .bool true, .none, .int 1, .tuple [.tuple [.int 9, .int 4], .tuple [.int 8, .int 5]], .bool true, .none, .int 1], rfl, rfl, Nat.le_of_ble_eq_true rfl, rfl, ?_⟩
    refine ⟨_, rfl, ?_⟩
    obtain ⟨dx9, ho9⟩ := A9.ob
    refine ⟨_, rfl, a, dx9, _, rfl, ho9, fl_no _ _ (by decide +kernel) (by decide +kernel), ?_⟩
    refine c_hold A9 (L := [.tuple [.int 9, .int 4], .tuple [.int 8, .int 5], .tuple [.int 0, .int 0]]) rfl (fun m10 hm10 A10 => ?_)
    obtain ⟨dx10, ho10⟩ := A10.ob
    refine ⟨_, rfl, a, dx10, _, rfl, ho10, fl_no _ _ (by decide +kernel) (by decide +kernel), ?_⟩
    refine c_wait A10 (L := [.tuple [.int 8, .int 1]]) (wait_c (sv_c (I := [2]) (L := [(8, 2)]) (by decide) (by decide) rfl) rfl) (fun m11 hm11 A11 => ?_)
    refine ⟨_, rfl, ?_⟩
    refine ⟨_, rfl, 3, _, .d (.int 1), rfl, rfl, at_nat (n := 3) rfl, ?_⟩
    refine c_lrel0 A11 (by rfl) fun m12 hm12 A12 => ?_
    obtain ⟨dx12, ho12⟩ := A12.ob
    refine ⟨_, rfl, a, dx12, _, rfl, ho12, fl_no _ _ (by decide +kernel) (by decide +kernel), ?_⟩
    refine ⟨_, rfl, 4, _, .d (.int 2), rfl, rfl, at_nat (n := 4) rfl, ?_⟩
    refine ⟨_, rfl, 2, _, .d (.int 0), rfl, rfl, at_nat (n := 2) rfl, ?_⟩
    refine ⟨Nat.le_of_ble_eq_true rfl, mkT_l (ds := [.int 0]) rfl ?_⟩
    refine c_pre0 A12 (i := 2) (k := 1) (vs := [0]) (by first | rfl | kernel_rfl) (fun m13 hm13 A13 => ?_)
    refine ⟨Nat.le_of_ble_eq_true rfl, [.tuple [.tuple [.int 9, .int 4], .tuple [.int 8, .int 5], .tuple [.int 0, .int 0]], .tuple [.tuple [.int 8, .int 1]], .none, .none], rfl, ?_⟩
    refine ⟨_, _, [.bool true, .bool true, .none, .int 1, .tuple [.tuple [.int 9, .int 4], .tuple [.int 8, .int 5]], .bool true, .none, .int 1, .tuple [.tuple [.int 9, .int 4], .tuple [.int 8, .int 5], .tuple [.int 0, .int 0]], .tuple [.tuple [.int 8, .int 1]], .none, .none], rfl, rfl, Nat.le_of_ble_eq_true rfl, rfl, ?_⟩
    refine ⟨_, rfl, 0, _, .d (.int 4), rfl, rfl, at_nat (n := 0) rfl, ?_⟩
    refine ⟨Nat.le_of_ble_eq_true rfl, mkT_l (ds := [.int 9, .int 4]) rfl ?_⟩
    refine ⟨_, rfl, 1, _, .d (.int 5), rfl, rfl, at_nat (n := 1) rfl, ?_⟩
    refine ⟨Nat.le_of_ble_eq_true rfl, mkT_l (ds := [.int 8, .int 5]) rfl ?_⟩
    refine ⟨Nat.le_of_ble_eq_true rfl, mkT_l (ds := [.tuple [.int 9, .int 4], .tuple [.int 8, .int 5]]) rfl ?_⟩
    refine ⟨_, rfl, 3, _, .d (.int 1), rfl, rfl, at_nat (n := 3) rfl, ?_⟩
    refine ⟨_, rfl, 0, _, .d (.int 4), rfl, rfl, at_nat (n := 0) rfl, ?_⟩
    refine ⟨Nat.le_of_ble_eq_true rfl, mkT_l (ds := [.int 9, .int 4]) rfl ?_⟩
    refine ⟨_, rfl, 1, _, .d (.int 5), rfl, rfl, at_nat (n := 1) rfl, ?_⟩
    refine ⟨Nat.le_of_ble_eq_true rfl, mkT_l (ds := [.int 8, .int 5]) rfl ?_⟩
    refine ⟨_, rfl, 2, _, .d (.int 0), rfl, rfl, at_nat (n := 2) rfl, ?_⟩
    refine ⟨Nat.le_of_ble_eq_true rfl, mkT_l (ds := [.int 0, .int 0]) rfl ?_⟩
    refine ⟨Nat.le_of_ble_eq_true rfl, mkT_l (ds := [.tuple [.int 9, .int 4], .tuple [.int 8, .int 5], .tuple [.int 0, .int 0]]) rfl ?_⟩
    refine ⟨Nat.le_of_ble_eq_true rfl, [.bool true, .bool true, .none, .int 1, .tuple [.tuple [.int 9, .int 4], .tuple [.int 8, .int 5]], .bool true, .none, .int 1, .tuple [.tuple [.int 9, .int 4], .tuple [.int 8, .int 5], .tuple [.int 0, .int 0]]], rfl, ?_⟩
    refine ⟨_, rfl, ?_⟩
    refine ⟨_, rfl, ?_⟩
    refine ⟨_, rfl, 3, _, .d (.int 1), rfl, rfl, at_nat (n := 3) rfl, ?_⟩
    refine ⟨Nat.le_of_ble_eq_true rfl, mkT_l (ds := [.int 8, .int 1]) rfl ?_⟩
    refine ⟨Nat.le_of_ble_eq_true rfl, mkT_l (ds := [.tuple [.int 8, .int 1]]) rfl ?_⟩
    refine ⟨Nat.le_of_ble_eq_true rfl, [.tuple [.tuple [.int 8, .int 1]], .none, .none], rfl, ?_⟩
    refine ⟨_, _, [.bool true, .bool true, .none, .int 1, .tuple [.tuple [.int 9, .int 4], .tuple [.int 8, .int 5]], .bool true, .none, .int 1, .tuple [.tuple [.int 9, .int 4], .tuple [.int 8, .int 5], .tuple [.int 0, .int 0]], .tuple [.tuple [.int 8, .int 1]], .none, .none], rfl, rfl, Nat.le_of_ble_eq_true rfl, rfl, ?_⟩
    exact ⟨.list [.bool true, .bool true, .none, .int 1, .tuple [.tuple [.int 9, .int 4], .tuple [.int 8, .int 5]], .bool true, .none, .int 1, .tuple [.tuple [.int 9, .int 4], .tuple [.int 8, .int 5], .tuple [.int 0, .int 0]], .tuple [.tuple [.int 8, .int 1]], .none, .none], rfl, ⟨by decide +kernel, by decide +kernel, by decide +kernel, by decide +kernel⟩, h _⟩
  · refine ⟨6, rfl, by decide, by decide, ?_⟩
    refine lc_rngE (fun i => .int (((0 + (i : Int)) + 5) % 6)) [.int 5, .int 0, .int 1, .int 2, .int 3, .int 4] (Nat.le_of_ble_eq_true rfl) rfl (fun i M hi hM C' N' hC => iteT ⟨_, rfl, _, rfl, (by decide : (0 : Int) < 6), hC M Mle.refl⟩) fun m0 hm0 => ?_
    refine fun a dx na => c_init (by decide) mu_same fun p m1 A1 => ⟨rfl, ?_⟩
    obtain ⟨dx1, ho1⟩ := A1.ob
    refine ⟨_, rfl, a, dx1, _, rfl, ho1, fl_no _ _ (by decide +kernel) (by decide +kernel), ?_⟩
    refine ⟨_, rfl, 0, _, .d (.int 5), rfl, rfl, at_nat (n := 0) rfl, ?_⟩
    refine c_req A1 (i := 5) (k := 9) (rs' := ([⟨9, 5, true⟩] : List Rq)) (b := true) rfl rfl (fun m2 hm2 A2 => ?_)
    obtain ⟨dx2, ho2⟩ := A2.ob
    refine ⟨_, rfl, a, dx2, _, rfl, ho2, fl_no _ _ (by decide +kernel) (by decide +kernel), ?_⟩
    refine ⟨_, rfl, 1, _, .d (.int 0), rfl, rfl, at_nat (n := 1) rfl, ?_⟩
    refine c_req A2 (i := 0) (k := 8) (rs' := ([⟨9, 5, true⟩, ⟨8, 0, true⟩] : List Rq)) (b := true) rfl rfl (fun m3 hm3 A3 => ?_)
    obtain ⟨dx3, ho3⟩ := A3.ob
    refine ⟨_, rfl, a, dx3, _, rfl, ho3, fl_no _ _ (by decide +kernel) (by decide +kernel), ?_⟩
    refine ⟨_, rfl, 2, _, .d (.int 1), rfl, rfl, at_nat (n := 2) rfl, ?_⟩
    refine ⟨_, rfl, 0, _, .d (.int 5), rfl, rfl, at_nat (n := 0) rfl, ?_⟩
    refine ⟨Nat.le_of_ble_eq_true rfl, mkT_l (ds := [.int 5]) rfl ?_⟩
    refine c_pre0 A3 (i := 1) (k := 0) (vs := [5]) (by first | rfl | kernel_rfl) (fun m4 hm4 A4 => ?_)
    obtain ⟨dx4, ho4⟩ := A4.ob
    refine ⟨_, rfl, a, dx4, _, rfl, ho4, c_free A4 (v := 1) rfl fun m5 hm5 A5 => ?_⟩
    obtain ⟨dx5, ho5⟩ := A5.ob
    refine ⟨_, rfl, a, dx5, _, rfl, ho5, fl_no _ _ (by decide +kernel) (by decide +kernel), ?_⟩
    refine c_hold A5 (L := [.tuple [.int 9, .int 5], .tuple [.int 8, .int 0]]) rfl (fun m6 hm6 A6 => ?_)
    refine ⟨Nat.le_of_ble_eq_true rfl, [.bool true, .bool true, .none, .int 1, .tuple [.tuple [.int 9, .int 5], .tuple [.int 8, .int 0]]], rfl, ?_⟩
    refine ⟨_, rfl, ?_⟩
    obtain ⟨dx6, ho6⟩ := A6.ob
    refine ⟨_, rfl, a, dx6, _, rfl, ho6, fl_no _ _ (by decide +kernel) (by decide +kernel), ?_⟩
    refine ⟨_, rfl, 3, _, .d (.int 2), rfl, rfl, at_nat (n := 3) rfl, ?_⟩
    refine c_req A6 (i := 2) (k := 8) (rs' := ([⟨9, 5, true⟩, ⟨8, 0, true⟩, ⟨8, 2, true⟩] : List Rq)) (b := true) rfl rfl (fun m7 hm7 A7 => ?_)
    obtain ⟨dx7, ho7⟩ := A7.ob
    refine ⟨_, rfl, a, dx7, _, rfl, ho7, fl_no _ _ (by decide +kernel) (by decide +kernel), ?_⟩
    refine ⟨_, rfl, 2, _, .d (.int 1), rfl, rfl, at_nat (n := 2) rfl, ?_⟩
    refine ⟨Nat.le_of_ble_eq_true rfl, mkT_l (ds := []) rfl ?_⟩
    refine c_pre0 A7 (i := 1) (k := 0) (vs := []) (by first | rfl | kernel_rfl) (fun m8 hm8 A8 => ?_)
    obtain ⟨dx8, ho8⟩ := A8.ob
    refine ⟨_, rfl, a, dx8, _, rfl, ho8, fl_no _ _ (by decide +kernel) (by decide +kernel), ?_⟩
    refine ⟨_, rfl, 2, _, .d (.int 1), rfl, rfl, at_nat (n := 2) rfl, ?_⟩
    refine ⟨_, rfl, 1, _, .d (.int 0), rfl, rfl, at_nat (n := 1) rfl, ?_⟩
    refine ⟨_, rfl, 3, _, .d (.int 2), rfl, rfl, at_nat (n := 3) rfl, ?_⟩
    refine ⟨_, rfl, 1, _, .d (.int 0), rfl, rfl, at_nat (n := 1) rfl, ?_⟩
    refine ⟨Nat.le_of_ble_eq_true rfl, mkT_l (ds := [.int 0, .int 2, .int 0]) rfl ?_⟩
    refine c_pre A8 (i := 1) (k := 0) (vs := [0, 2, 0]) (rs' := ([⟨9, 5, true⟩, ⟨8, 0, true⟩, ⟨8, 2, false⟩, ⟨0, 1, true⟩] : List Rq)) (v := 2) (by first | rfl | kernel_rfl) (fun m9 hm9 A9 => ?_)
    refine ⟨Nat.le_of_ble_eq_true rfl, [.bool true, .none, .int 2], rfl, ?_⟩
    refine ⟨_, _, [.bool true, .bool true, .none, .int 1, .tuple [.tuple [.int 9, .int 5], .tuple [.int 8, .int 0]], .bool true, .none, .int 2], rfl, rfl, Nat.le_of_ble_eq_true rfl, rfl, ?_⟩
    refine ⟨_, rfl, ?_⟩
    obtain ⟨dx9, ho9⟩ := A9.ob
    refine ⟨_, rfl, a, dx9, _, rfl, ho9, fl_no _ _ (by decide +kernel) (by decide +kernel), ?_⟩
    refine c_hold A9 (L := [.tuple [.int 9, .int 5], .tuple [.int 8, .int 0], .tuple [.int 0, .int 1]]) rfl (fun m10 hm10 A10 => ?_)
    obtain ⟨dx10, ho10⟩ := A10.ob
    refine ⟨_, rfl, a, dx10, _, rfl, ho10, fl_no _ _ (by decide +kernel) (by decide +kernel), ?_⟩
    refine c_wait A10 (L := [.tuple [.int 8, .int 2]]) (wait_c (sv_c (I := [2]) (L := [(8, 2)]) (by decide) (by decide) rfl) rfl) (fun m11 hm11 A11 => ?_)
    refine ⟨_, rfl, ?_⟩
    refine ⟨_, rfl, 3, _, .d (.int 2), rfl, rfl, at_nat (n := 3) rfl, ?_⟩
    refine c_lrel0 A11 (by rfl) fun m12 hm12 A12 => ?_
    obtain ⟨dx12, ho12⟩ := A12.ob
    refine ⟨_, rfl, a, dx12, _, rfl, ho12, fl_no _ _ (by decide +kernel) (by decide +kernel), ?_⟩
    refine ⟨_, rfl, 4, _, .d (.int 3), rfl, rfl, at_nat (n := 4) rfl, ?_⟩
    refine ⟨_, rfl, 2, _, .d (.int 1), rfl, rfl, at_nat (n := 2) rfl, ?_⟩
    refine ⟨Nat.le_of_ble_eq_true rfl, mkT_l (ds := [.int 1]) rfl ?_⟩
    refine c_pre0 A12 (i := 3) (k := 1) (vs := [1]) (by first | rfl | kernel_rfl) (fun m13 hm13 A13 => ?_)
    refine ⟨Nat.le_of_ble_eq_true rfl, [.tuple [.tuple [.int 9, .int 5], .tuple [.int 8, .int 0], .tuple [.int 0, .int 1]], .tuple [.tuple [.int 8, .int 2]], .none, .none], rfl, ?_⟩
    refine ⟨_, _, [.bool true, .bool true, .none, .int 1, .tuple [.tuple [.int 9, .int 5], .tuple [.int 8, .int 0]], .bool true, .none, .int 2, .tuple [.tuple [.int 9, .int 5], .tuple [.int 8, .int 0], .tuple [.int 0, .int 1]], .tuple [.tuple [.int 8, .int 2]], .none, .none], rfl, rfl, Nat.le_of_ble_eq_true rfl, rfl, ?_⟩
    refine ⟨_, rfl, 0, _, .d (.int 5), rfl, rfl, at_nat (n := 0) rfl, ?_⟩
    refine ⟨Nat.le_of_ble_eq_true rfl, mkT_l (ds := [.int 9, .int 5]) rfl ?_⟩
    refine ⟨_, rfl, 1, _, .d (.int 0), rfl, rfl, at_nat (n := 1) rfl, ?_⟩
    refine ⟨Nat.le_of_ble_eq_true rfl, mkT_l (ds := [.int 8, .int 0]) rfl ?_⟩
    refine ⟨Nat.le_of_ble_eq_true rfl, mkT_l (ds := [.tuple [.int 9, .int 5], .tuple [.int 8, .int 0]]) rfl ?_⟩
    refine ⟨_, rfl, 3, _, .d (.int 2), rfl, rfl, at_nat (n := 3) rfl, ?_⟩
    refine ⟨_, rfl, 0, _, .d (.int 5), rfl, rfl, at_nat (n := 0) rfl, ?_⟩
    refine ⟨Nat.le_of_ble_eq_true rfl, mkT_l (ds := [.int 9, .int 5]) rfl ?_⟩
    refine ⟨_, rfl, 1, _, .d (.int 0), rfl, rfl, at_nat (n := 1) rfl, ?_⟩
    refine ⟨Nat.le_of_ble_eq_true rfl, mkT_l (ds := [.int 8, .int 0]) rfl ?_⟩
    refine ⟨_, rfl, 2, _, .d (.int 1), rfl, rfl, at_nat (n := 2) rfl, ?_⟩
    refine ⟨Nat.le_of_ble_eq_true rfl, mkT_l (ds := [.int 0, .int 1]) rfl ?_⟩
    refine ⟨Nat.le_of_ble_eq_true rfl, mkT_l (ds := [.tuple [.int 9, .int 5], .tuple [.int 8, .int 0], .tuple [.int 0, .int 1]]) rfl ?_⟩
    refine ⟨Nat.le_of_ble_eq_true rfl, [.bool true, .bool true, .none, .int 1, .tuple [.tuple [.int 9, .int 5], .tuple [.int 8, .int 0]], .bool true, .none, .int 2, .tuple [.tuple [.int 9, .int 5], .tuple [.int 8, .int 0], .tuple [.int 0, .int 1]]], rfl, ?_⟩
    refine ⟨_, rfl, ?_⟩
    refine ⟨_, rfl, ?_⟩
    refine ⟨_, rfl, 3, _, .d (.int 2), rfl, rfl, at_nat (n := 3) rfl, ?_⟩
    refine ⟨Nat.le_of_ble_eq_true rfl, mkT_l (ds := [.int 8, .int 2]) rfl ?_⟩
    refine ⟨Nat.le_of_ble_eq_true rfl, mkT_l (ds := [.tuple [.int 8, .int 2]]) rfl ?_⟩
    refine ⟨Nat.le_of_ble_eq_true rfl, [.tuple [.tuple [.int 8, .int 2]], .none, .none], rfl, ?_⟩
    refine ⟨_, _, [.bool true, .bool true, .none, .int 1, .tuple [.tuple [.int 9, .int 5], .tuple [.int 8, .int 0]], .bool true, .none, .int 2, .tuple [.tuple [.int 9, .int 5], .tuple [.int 8, .int 0], .tuple [.int 0, .int 1]], .tuple [.tuple [.int 8, .int 2]], .none, .none], rfl, rfl, Nat.le_of_ble_eq_true rfl, rfl, ?_⟩
    exact ⟨.list [.bool true, .bool true, .none, .int 1, .tuple [.tuple [.int 9, .int 5], .tuple [.int 8, .int 0]], .bool true, .none, .int 2, .tuple [.tuple [.int 9, .int 5], .tuple [.int 8, .int 0], .tuple [.int 0, .int 1]], .tuple [.tuple [.int 8, .int 2]], .none, .none], rfl, ⟨by decide +kernel, by decide +kernel, by decide +kernel, by decide +kernel⟩, h _⟩
abbrev s_law : Stmt := top 27
abbrev N_law : List Str := ["_law_script", "_law_shift"]
theorem sc_law : FnScope N_law ["_law_script"] (defScope s_law) := ⟨rfl, rfl, rfl, by decide +kernel, rfl, by decide +kernel, by decide +kernel⟩
theorem ok_law {f : Addr} {fd : FuncData} (F : Fun K "law" "law" s_law f fd) (T : Txt K mg) {f0 f1 f2 f3 f4 f5 : Addr} {fd0 fd1 fd2 fd3 fd4 fd5 : FuncData} (G_law_cell_at : GF P w K mg base "_law_cell_at" 1 f0 fd0 ["_law_script", "_law_k"] d_law_cell_at) (G_law_first_case : GF P w K mg base "_law_first_case" 10 f1 fd1 ["_law_shift"] d_case) (G_law_second_case : GF P w K mg base "_law_second_case" 10 f2 fd2 ["_law_shift"] d_case) (G_law_third_case : GF P w K mg base "_law_third_case" 10 f3 fd3 ["_law_shift"] d_case) (G_law_fourth_case : GF P w K mg base "_law_fourth_case" 10 f4 fd4 ["_law_shift"] d_case) (G_law_fifth_case : GF P w K mg base "_law_fifth_case" 10 f5 fd5 ["_law_shift"] d_case) : FnD P w K mg base 11 f fd ["_law_script"] (dLaw) := by
  refine Dl.Fun.dok F sc_law _ (fun cdv A outer s H E B hp =>
      (dss_cons (ds_set (i := 1) sc_law.nd rfl (by first | exact Or.inl rfl | exact Or.inr rfl) (de_op opd_mod (de_gf G_law_cell_at B.hr B.gd B.tk rfl (da_cons (de_var (pv 0)) (da_cons (de_int) da_nil))) (de_int)))
      (dss_cons (ds_if (DW.dt (dw_or (dt_not (dt_tru (de_gf G_law_first_case B.hr B.gd B.tk rfl (da_cons (de_var (pv 1)) da_nil)))) (dw_or (dt_not (dt_tru (de_gf G_law_second_case B.hr B.gd B.tk rfl (da_cons (de_var (pv 1)) da_nil)))) (dw_or1 (dt_not (dt_tru (de_gf G_law_third_case B.hr B.gd B.tk rfl (da_cons (de_var (pv 1)) da_nil))))))))
      (dss_one (ds_ret (de_bl)))
      dss_nil)
      (dss_one (ds_ret (de_and (de_gf G_law_fourth_case B.hr B.gd B.tk rfl (da_cons (de_var (pv 1)) da_nil)) (de_one (de_gf G_law_fifth_case B.hr B.gd B.tk rfl (da_cons (de_var (pv 1)) da_nil))))))))) (fun ys m F P h => ?_)
  obtain ⟨ns, rfl, hlen, h⟩ := h
  refine ⟨rfl, _, rfl, ns, 0, rfl, fun c0 => ?_⟩
  have s0 : 0 ≤ c0 % 6 := Int.emod_nonneg _ (by decide)
  have s5 : c0 % 6 ≤ 5 := by have := Int.emod_lt_of_pos c0 (show (0 : Int) < 6 by decide); omega
  refine ⟨by decide, ?_⟩
  generalize c0 % 6 = s at s0 s5
  refine ⟨_, rfl, s, rfl, s0, s5, fun m1 => ⟨true, tru_b _, iteE rfl ?_⟩⟩
  refine ⟨_, rfl, s, rfl, s0, s5, fun m2 => ⟨true, tru_b _, iteE rfl ?_⟩⟩
  refine ⟨_, rfl, s, rfl, s0, s5, fun m3 => ⟨true, tru_b _, iteE rfl ?_⟩⟩
  refine ⟨_, rfl, s, rfl, s0, s5, fun m4 => ⟨true, rfl, iteI rfl ?_⟩⟩
  exact ⟨_, rfl, s, rfl, s0, s5, fun m5 => h m5⟩
end
/-! ### what the top has written -/
theorem all_mk {l : PySem.W.OpenLaw} {w : World} {K : PySem.W.Frag} {h : Heap} {mg : Str → Option Value} {fa : Addr} (X : K.In h) (G : h.Ns mainGlobals mg) (hfa : mg "law" = some (.ref fa))
    {C0 : Addr}
    {t_C0MOST_UNITS : Tok}
    {C1 : Addr}
    {t_C1MOST_UNITS : Tok}
    {C2 : Addr}
    {t_C2MOST_UNITS : Tok}
    {XH : Addr}
    {t_LAST_PROCESS : Tok}
    {t_LAST_RANK : Tok}
    {f_is_between : Addr} {od_is_between an_is_between : Option Addr} {sl_is_between : Array (Option Value)} {oc_is_between kV_is_between dc_is_between pm_is_between ct_is_between : Value}
    {cd_is_between : Value}
    {f_check_number : Addr} {od_check_number an_check_number : Option Addr} {sl_check_number : Array (Option Value)} {oc_check_number kV_check_number dc_check_number pm_check_number ct_check_number : Value}
    {cd_check_number : Value}
    {f_check_process : Addr} {od_check_process an_check_process : Option Addr} {sl_check_process : Array (Option Value)} {oc_check_process kV_check_process dc_check_process pm_check_process ct_check_process : Value}
    {cd_check_process : Value}
    {f_check_rank : Addr} {od_check_rank an_check_rank : Option Addr} {sl_check_rank : Array (Option Value)} {oc_check_rank kV_check_rank dc_check_rank pm_check_rank ct_check_rank : Value}
    {cd_check_rank : Value}
    {f_check_victims : Addr} {od_check_victims an_check_victims : Option Addr} {sl_check_victims : Array (Option Value)} {oc_check_victims kV_check_victims dc_check_victims pm_check_victims ct_check_victims : Value}
    {cd_check_victims : Value}
    {f_init : Addr} {od_init an_init : Option Addr} {sl_init : Array (Option Value)} {oc_init kV_init dc_init pm_init ct_init : Value}
    {cd_init : Value}
    {f_holders : Addr} {od_holders an_holders : Option Addr} {sl_holders : Array (Option Value)} {oc_holders kV_holders dc_holders pm_holders ct_holders : Value}
    {cd_holders : Value}
    {f_free : Addr} {od_free an_free : Option Addr} {sl_free : Array (Option Value)} {oc_free kV_free dc_free pm_free ct_free : Value}
    {cd_free : Value}
    {p_free : Addr} {r_free : List Value}
    {f_served : Addr} {od_served an_served : Option Addr} {sl_served : Array (Option Value)} {oc_served kV_served dc_served pm_served ct_served : Value}
    {cd_served : Value}
    {f_waiting : Addr} {od_waiting an_waiting : Option Addr} {sl_waiting : Array (Option Value)} {oc_waiting kV_waiting dc_waiting pm_waiting ct_waiting : Value}
    {cd_waiting : Value}
    {f_length : Addr} {od_length an_length : Option Addr} {sl_length : Array (Option Value)} {oc_length kV_length dc_length pm_length ct_length : Value}
    {cd_length : Value}
    {p_length : Addr} {r_length : List Value}
    {f_repr : Addr} {od_repr an_repr : Option Addr} {sl_repr : Array (Option Value)} {oc_repr kV_repr dc_repr pm_repr ct_repr : Value}
    {cd_repr : Value}
    {f_request : Addr} {od_request an_request : Option Addr} {sl_request : Array (Option Value)} {oc_request kV_request dc_request pm_request ct_request : Value}
    {cd_request : Value}
    {f_release : Addr} {od_release an_release : Option Addr} {sl_release : Array (Option Value)} {oc_release kV_release dc_release pm_release ct_release : Value}
    {cd_release : Value}
    {f_Rholders : Addr} {od_Rholders an_Rholders : Option Addr} {sl_Rholders : Array (Option Value)} {oc_Rholders kV_Rholders dc_Rholders pm_Rholders ct_Rholders : Value}
    {ca_Rholders cc_Rholders : Addr} {oca_Rholders occ_Rholders : Value} {dca_Rholders dcc_Rholders : Option Addr} {sca_Rholders scc_Rholders : Array (Option Value)} {vs_Rholders : Array Value} {fi_Rholders : Str} {tf_Rholders : Tok}
    {f_Rfree : Addr} {od_Rfree an_Rfree : Option Addr} {sl_Rfree : Array (Option Value)} {oc_Rfree kV_Rfree dc_Rfree pm_Rfree ct_Rfree : Value}
    {cd_Rfree : Value}
    {p_Rfree : Addr} {r_Rfree : List Value}
    {f_Rserved : Addr} {od_Rserved an_Rserved : Option Addr} {sl_Rserved : Array (Option Value)} {oc_Rserved kV_Rserved dc_Rserved pm_Rserved ct_Rserved : Value}
    {ca_Rserved cc_Rserved : Addr} {oca_Rserved occ_Rserved : Value} {dca_Rserved dcc_Rserved : Option Addr} {sca_Rserved scc_Rserved : Array (Option Value)} {vs_Rserved : Array Value} {fi_Rserved : Str} {tf_Rserved : Tok}
    {f_Rwaiting : Addr} {od_Rwaiting an_Rwaiting : Option Addr} {sl_Rwaiting : Array (Option Value)} {oc_Rwaiting kV_Rwaiting dc_Rwaiting pm_Rwaiting ct_Rwaiting : Value}
    {ca_Rwaiting cc_Rwaiting : Addr} {oca_Rwaiting occ_Rwaiting : Value} {dca_Rwaiting dcc_Rwaiting : Option Addr} {sca_Rwaiting scc_Rwaiting : Array (Option Value)} {vs_Rwaiting : Array Value} {fi_Rwaiting : Str} {tf_Rwaiting : Tok}
    {f_Rlength : Addr} {od_Rlength an_Rlength : Option Addr} {sl_Rlength : Array (Option Value)} {oc_Rlength kV_Rlength dc_Rlength pm_Rlength ct_Rlength : Value}
    {cd_Rlength : Value}
    {p_Rlength : Addr} {r_Rlength : List Value}
    {f_Rrequest : Addr} {od_Rrequest an_Rrequest : Option Addr} {sl_Rrequest : Array (Option Value)} {oc_Rrequest kV_Rrequest dc_Rrequest pm_Rrequest ct_Rrequest : Value}
    {ca_Rrequest cc_Rrequest : Addr} {oca_Rrequest occ_Rrequest : Value} {dca_Rrequest dcc_Rrequest : Option Addr} {sca_Rrequest scc_Rrequest : Array (Option Value)} {vs_Rrequest : Array Value} {fi_Rrequest : Str} {tf_Rrequest : Tok}
    {f_Rrelease : Addr} {od_Rrelease an_Rrelease : Option Addr} {sl_Rrelease : Array (Option Value)} {oc_Rrelease kV_Rrelease dc_Rrelease pm_Rrelease ct_Rrelease : Value}
    {ca_Rrelease cc_Rrelease : Addr} {oca_Rrelease occ_Rrelease : Value} {dca_Rrelease dcc_Rrelease : Option Addr} {sca_Rrelease scc_Rrelease : Array (Option Value)} {vs_Rrelease : Array Value} {fi_Rrelease : Str} {tf_Rrelease : Tok}
    {f_Pholders : Addr} {od_Pholders an_Pholders : Option Addr} {sl_Pholders : Array (Option Value)} {oc_Pholders kV_Pholders dc_Pholders pm_Pholders ct_Pholders : Value}
    {ca_Pholders cc_Pholders : Addr} {oca_Pholders occ_Pholders : Value} {dca_Pholders dcc_Pholders : Option Addr} {sca_Pholders scc_Pholders : Array (Option Value)} {vs_Pholders : Array Value} {fi_Pholders : Str} {tf_Pholders : Tok}
    {f_Pfree : Addr} {od_Pfree an_Pfree : Option Addr} {sl_Pfree : Array (Option Value)} {oc_Pfree kV_Pfree dc_Pfree pm_Pfree ct_Pfree : Value}
    {cd_Pfree : Value}
    {p_Pfree : Addr} {r_Pfree : List Value}
    {f_Pwaiting : Addr} {od_Pwaiting an_Pwaiting : Option Addr} {sl_Pwaiting : Array (Option Value)} {oc_Pwaiting kV_Pwaiting dc_Pwaiting pm_Pwaiting ct_Pwaiting : Value}
    {ca_Pwaiting cc_Pwaiting : Addr} {oca_Pwaiting occ_Pwaiting : Value} {dca_Pwaiting dcc_Pwaiting : Option Addr} {sca_Pwaiting scc_Pwaiting : Array (Option Value)} {vs_Pwaiting : Array Value} {fi_Pwaiting : Str} {tf_Pwaiting : Tok}
    {f_Plength : Addr} {od_Plength an_Plength : Option Addr} {sl_Plength : Array (Option Value)} {oc_Plength kV_Plength dc_Plength pm_Plength ct_Plength : Value}
    {cd_Plength : Value}
    {p_Plength : Addr} {r_Plength : List Value}
    {f_Prepr : Addr} {od_Prepr an_Prepr : Option Addr} {sl_Prepr : Array (Option Value)} {oc_Prepr kV_Prepr dc_Prepr pm_Prepr ct_Prepr : Value}
    {cd_Prepr : Value}
    {f_Prequest : Addr} {od_Prequest an_Prequest : Option Addr} {sl_Prequest : Array (Option Value)} {oc_Prequest kV_Prequest dc_Prequest pm_Prequest ct_Prequest : Value}
    {ca_Prequest cc_Prequest : Addr} {oca_Prequest occ_Prequest : Value} {dca_Prequest dcc_Prequest : Option Addr} {sca_Prequest scc_Prequest : Array (Option Value)} {vs_Prequest : Array Value} {fi_Prequest : Str} {tf_Prequest : Tok}
    {f_Prelease : Addr} {od_Prelease an_Prelease : Option Addr} {sl_Prelease : Array (Option Value)} {oc_Prelease kV_Prelease dc_Prelease pm_Prelease ct_Prelease : Value}
    {ca_Prelease cc_Prelease : Addr} {oca_Prelease occ_Prelease : Value} {dca_Prelease dcc_Prelease : Option Addr} {sca_Prelease scc_Prelease : Array (Option Value)} {vs_Prelease : Array Value} {fi_Prelease : Str} {tf_Prelease : Tok}
    {f_Pvictim : Addr} {od_Pvictim an_Pvictim : Option Addr} {sl_Pvictim : Array (Option Value)} {oc_Pvictim kV_Pvictim dc_Pvictim pm_Pvictim ct_Pvictim : Value}
    {cd_Pvictim : Value}
    {f_Ppreempt : Addr} {od_Ppreempt an_Ppreempt : Option Addr} {sl_Ppreempt : Array (Option Value)} {oc_Ppreempt kV_Ppreempt dc_Ppreempt pm_Ppreempt ct_Ppreempt : Value}
    {cd_Ppreempt : Value}
    {f_law_cell_at : Addr} {od_law_cell_at an_law_cell_at : Option Addr} {sl_law_cell_at : Array (Option Value)} {oc_law_cell_at kV_law_cell_at dc_law_cell_at pm_law_cell_at ct_law_cell_at : Value}
    {cd_law_cell_at : Value}
    {f_law_same : Addr} {od_law_same an_law_same : Option Addr} {sl_law_same : Array (Option Value)} {oc_law_same kV_law_same dc_law_same pm_law_same ct_law_same : Value}
    {cd_law_same : Value}
    {f_law_released : Addr} {od_law_released an_law_released : Option Addr} {sl_law_released : Array (Option Value)} {oc_law_released kV_law_released dc_law_released pm_law_released ct_law_released : Value}
    {cd_law_released : Value}
    {f_law_first_case : Addr} {od_law_first_case an_law_first_case : Option Addr} {sl_law_first_case : Array (Option Value)} {oc_law_first_case kV_law_first_case dc_law_first_case pm_law_first_case ct_law_first_case : Value}
    {cd_law_first_case : Value}
    {f_law_second_case : Addr} {od_law_second_case an_law_second_case : Option Addr} {sl_law_second_case : Array (Option Value)} {oc_law_second_case kV_law_second_case dc_law_second_case pm_law_second_case ct_law_second_case : Value}
    {cd_law_second_case : Value}
    {f_law_third_case : Addr} {od_law_third_case an_law_third_case : Option Addr} {sl_law_third_case : Array (Option Value)} {oc_law_third_case kV_law_third_case dc_law_third_case pm_law_third_case ct_law_third_case : Value}
    {cd_law_third_case : Value}
    {f_law_fourth_case : Addr} {od_law_fourth_case an_law_fourth_case : Option Addr} {sl_law_fourth_case : Array (Option Value)} {oc_law_fourth_case kV_law_fourth_case dc_law_fourth_case pm_law_fourth_case ct_law_fourth_case : Value}
    {cd_law_fourth_case : Value}
    {f_law_fifth_case : Addr} {od_law_fifth_case an_law_fifth_case : Option Addr} {sl_law_fifth_case : Array (Option Value)} {oc_law_fifth_case kV_law_fifth_case dc_law_fifth_case pm_law_fifth_case ct_law_fifth_case : Value}
    {cd_law_fifth_case : Value}
    {f_law : Addr} {od_law an_law : Option Addr} {sl_law : Array (Option Value)} {oc_law kV_law dc_law pm_law ct_law : Value}
    {cd_law : Value}
    (a_C0 : PySem.W.nsIn K mainGlobals "Line" = some (some (.ref C0)))
    (pg_C0 : PySem.W.plainGet K C0 Str.empty = true)
    (hd_C0 : PySem.W.hasDictIn K C0 = true)
    (po_C0 : PySem.W.plainOver K C0 = true)
    (sa_C0 : PySem.W.findIn K (.ref C0) "__setattr__" = some (some (.builtin "object.__setattr__")))
    (mk_C0 : PySem.W.makesIn K C0 = true)
    (kc_C0 : PySem.W.keepIn K (.ref C0) = true)
    (ic_C0 : PySem.W.isClsIn K C0 = true)
    (n_C0_units : PySem.W.findIn K (.ref C0) "_units" = some none)
    (n_C0_requests : PySem.W.findIn K (.ref C0) "_requests" = some none)
    (v_C0MOST_UNITS : PySem.W.findIn K (.ref C0) "MOST_UNITS" = some (some (.int 3 t_C0MOST_UNITS)))
    (w_C0MOST_UNITS : PySem.W.specialIn K (.int 3 t_C0MOST_UNITS) "__get__" = some none)
    (a_C1 : PySem.W.nsIn K mainGlobals "RankLine" = some (some (.ref C1)))
    (pg_C1 : PySem.W.plainGet K C1 Str.empty = true)
    (hd_C1 : PySem.W.hasDictIn K C1 = true)
    (po_C1 : PySem.W.plainOver K C1 = true)
    (sa_C1 : PySem.W.findIn K (.ref C1) "__setattr__" = some (some (.builtin "object.__setattr__")))
    (mk_C1 : PySem.W.makesIn K C1 = true)
    (kc_C1 : PySem.W.keepIn K (.ref C1) = true)
    (ic_C1 : PySem.W.isClsIn K C1 = true)
    (n_C1_units : PySem.W.findIn K (.ref C1) "_units" = some none)
    (n_C1_requests : PySem.W.findIn K (.ref C1) "_requests" = some none)
    (v_C1MOST_UNITS : PySem.W.findIn K (.ref C1) "MOST_UNITS" = some (some (.int 3 t_C1MOST_UNITS)))
    (w_C1MOST_UNITS : PySem.W.specialIn K (.int 3 t_C1MOST_UNITS) "__get__" = some none)
    (a_C2 : PySem.W.nsIn K mainGlobals "PreemptLine" = some (some (.ref C2)))
    (pg_C2 : PySem.W.plainGet K C2 Str.empty = true)
    (hd_C2 : PySem.W.hasDictIn K C2 = true)
    (po_C2 : PySem.W.plainOver K C2 = true)
    (sa_C2 : PySem.W.findIn K (.ref C2) "__setattr__" = some (some (.builtin "object.__setattr__")))
    (mk_C2 : PySem.W.makesIn K C2 = true)
    (kc_C2 : PySem.W.keepIn K (.ref C2) = true)
    (ic_C2 : PySem.W.isClsIn K C2 = true)
    (n_C2_units : PySem.W.findIn K (.ref C2) "_units" = some none)
    (n_C2_requests : PySem.W.findIn K (.ref C2) "_requests" = some none)
    (v_C2MOST_UNITS : PySem.W.findIn K (.ref C2) "MOST_UNITS" = some (some (.int 3 t_C2MOST_UNITS)))
    (w_C2MOST_UNITS : PySem.W.specialIn K (.int 3 t_C2MOST_UNITS) "__get__" = some none)
    (a_XH : PySem.W.nsIn K mainGlobals "HoldError" = some (some (.ref XH)))
    (x_XH : PySem.W.excIn K XH [.type "ValueError", .type "Exception", .type "BaseException", .type "object"] "ValueError.__new__" = true)
    (k_XH : PySem.W.keepIn K (.ref XH) = true)
    (b_XH : PySem.W.subIn K (.ref XH) (.type "BaseException") = some true)
    (t_XH : PySem.W.typeIn K (.ref XH) = some (.type "type"))
    (i_XH : PySem.W.isClsIn K XH = true)
    (s_XH : PySem.W.subIn K (.ref XH) (.ref XH) = some true)
    (v_LAST_PROCESS : PySem.W.nsIn K mainGlobals "LAST_PROCESS" = some (some (.int 5 t_LAST_PROCESS)))
    (v_LAST_RANK : PySem.W.nsIn K mainGlobals "LAST_RANK" = some (some (.int 9 t_LAST_RANK)))
    (z_isinstance : PySem.W.nsIn K mainGlobals "isinstance" = some none)
    (z_int : PySem.W.nsIn K mainGlobals "int" = some none)
    (z_bool : PySem.W.nsIn K mainGlobals "bool" = some none)
    (z_len : PySem.W.nsIn K mainGlobals "len" = some none)
    (z_tuple : PySem.W.nsIn K mainGlobals "tuple" = some none)
    (z_enumerate : PySem.W.nsIn K mainGlobals "enumerate" = some none)
    (z_max : PySem.W.nsIn K mainGlobals "max" = some none)
    (z_repr : PySem.W.nsIn K mainGlobals "repr" = some none)
    (z_sorted : PySem.W.nsIn K mainGlobals "sorted" = some none)
    (z_range : PySem.W.nsIn K mainGlobals "range" = some none)
    (z_super : PySem.W.nsIn K mainGlobals "super" = some none)
    (a_is_between : PySem.W.nsIn K mainGlobals "is_between" = some (some (.ref f_is_between)))
    (l_is_between : K.lookup f_is_between = some ⟨oc_is_between, od_is_between, .func (PySem.W.fnOf "is_between" "is_between" (defArgs s_is_between) (defBody s_is_between) (defScope s_is_between) .none kV_is_between dc_is_between pm_is_between an_is_between cd_is_between ct_is_between), sl_is_between⟩)
    (c_is_between : PySem.W.codeIn K cd_is_between "is_between" = true)
    (k_is_between : PySem.W.keepIn K (.ref f_is_between) = true)
    (a_check_number : PySem.W.nsIn K mainGlobals "check_number" = some (some (.ref f_check_number)))
    (l_check_number : K.lookup f_check_number = some ⟨oc_check_number, od_check_number, .func (PySem.W.fnOf "check_number" "check_number" (defArgs s_check_number) (defBody s_check_number) (defScope s_check_number) .none kV_check_number dc_check_number pm_check_number an_check_number cd_check_number ct_check_number), sl_check_number⟩)
    (c_check_number : PySem.W.codeIn K cd_check_number "check_number" = true)
    (k_check_number : PySem.W.keepIn K (.ref f_check_number) = true)
    (a_check_process : PySem.W.nsIn K mainGlobals "_check_process" = some (some (.ref f_check_process)))
    (l_check_process : K.lookup f_check_process = some ⟨oc_check_process, od_check_process, .func (PySem.W.fnOf "_check_process" "_check_process" (defArgs s_check_process) (defBody s_check_process) (defScope s_check_process) .none kV_check_process dc_check_process pm_check_process an_check_process cd_check_process ct_check_process), sl_check_process⟩)
    (c_check_process : PySem.W.codeIn K cd_check_process "_check_process" = true)
    (k_check_process : PySem.W.keepIn K (.ref f_check_process) = true)
    (a_check_rank : PySem.W.nsIn K mainGlobals "_check_rank" = some (some (.ref f_check_rank)))
    (l_check_rank : K.lookup f_check_rank = some ⟨oc_check_rank, od_check_rank, .func (PySem.W.fnOf "_check_rank" "_check_rank" (defArgs s_check_rank) (defBody s_check_rank) (defScope s_check_rank) .none kV_check_rank dc_check_rank pm_check_rank an_check_rank cd_check_rank ct_check_rank), sl_check_rank⟩)
    (c_check_rank : PySem.W.codeIn K cd_check_rank "_check_rank" = true)
    (k_check_rank : PySem.W.keepIn K (.ref f_check_rank) = true)
    (a_check_victims : PySem.W.nsIn K mainGlobals "_check_victims" = some (some (.ref f_check_victims)))
    (l_check_victims : K.lookup f_check_victims = some ⟨oc_check_victims, od_check_victims, .func (PySem.W.fnOf "_check_victims" "_check_victims" (defArgs s_check_victims) (defBody s_check_victims) (defScope s_check_victims) .none kV_check_victims dc_check_victims pm_check_victims an_check_victims cd_check_victims ct_check_victims), sl_check_victims⟩)
    (c_check_victims : PySem.W.codeIn K cd_check_victims "_check_victims" = true)
    (k_check_victims : PySem.W.keepIn K (.ref f_check_victims) = true)
    (a_C0_init : PySem.W.findIn K (.ref C0) "__init__" = some (some (.ref f_init)))
    (a_C1_init : PySem.W.findIn K (.ref C1) "__init__" = some (some (.ref f_init)))
    (a_C2_init : PySem.W.findIn K (.ref C2) "__init__" = some (some (.ref f_init)))
    (l_init : K.lookup f_init = some ⟨oc_init, od_init, .func (PySem.W.fnOf "__init__" "Line.__init__" (defArgs s_init) (defBody s_init) (defScope s_init) .none kV_init dc_init pm_init an_init cd_init ct_init), sl_init⟩)
    (c_init : PySem.W.codeIn K cd_init "Line.__init__" = true)
    (i_init : PySem.W.isFn K (.ref f_init) = true)
    (k_init : PySem.W.keepIn K (.ref f_init) = true)
    (a_C0_holders : PySem.W.findIn K (.ref C0) "holders" = some (some (.ref f_holders)))
    (l_holders : K.lookup f_holders = some ⟨oc_holders, od_holders, .func (PySem.W.fnOf "holders" "Line.holders" (defArgs s_holders) (defBody s_holders) (defScope s_holders) .none kV_holders dc_holders pm_holders an_holders cd_holders ct_holders), sl_holders⟩)
    (c_holders : PySem.W.codeIn K cd_holders "Line.holders" = true)
    (i_holders : PySem.W.isFn K (.ref f_holders) = true)
    (k_holders : PySem.W.keepIn K (.ref f_holders) = true)
    (a_C0_free : PySem.W.findIn K (.ref C0) "free" = some (some (.ref p_free)))
    (g_free : PySem.W.specialIn K (.ref p_free) "__get__" = some (some (.builtin "property.__get__")))
    (t_free : PySem.W.takesIn K (.ref p_free) = some true)
    (r_freeF : PySem.W.recIn K p_free "property" = some (.ref f_free :: r_free))
    (l_free : K.lookup f_free = some ⟨oc_free, od_free, .func (PySem.W.fnOf "free" "Line.free" (defArgs s_free) (defBody s_free) (defScope s_free) .none kV_free dc_free pm_free an_free cd_free ct_free), sl_free⟩)
    (c_free : PySem.W.codeIn K cd_free "Line.free" = true)
    (i_free : PySem.W.isFn K (.ref f_free) = true)
    (k_free : PySem.W.keepIn K (.ref f_free) = true)
    (a_C0_served : PySem.W.findIn K (.ref C0) "_served" = some (some (.ref f_served)))
    (l_served : K.lookup f_served = some ⟨oc_served, od_served, .func (PySem.W.fnOf "_served" "Line._served" (defArgs s_served) (defBody s_served) (defScope s_served) .none kV_served dc_served pm_served an_served cd_served ct_served), sl_served⟩)
    (c_served : PySem.W.codeIn K cd_served "Line._served" = true)
    (i_served : PySem.W.isFn K (.ref f_served) = true)
    (k_served : PySem.W.keepIn K (.ref f_served) = true)
    (a_C0_waiting : PySem.W.findIn K (.ref C0) "waiting" = some (some (.ref f_waiting)))
    (l_waiting : K.lookup f_waiting = some ⟨oc_waiting, od_waiting, .func (PySem.W.fnOf "waiting" "Line.waiting" (defArgs s_waiting) (defBody s_waiting) (defScope s_waiting) .none kV_waiting dc_waiting pm_waiting an_waiting cd_waiting ct_waiting), sl_waiting⟩)
    (c_waiting : PySem.W.codeIn K cd_waiting "Line.waiting" = true)
    (i_waiting : PySem.W.isFn K (.ref f_waiting) = true)
    (k_waiting : PySem.W.keepIn K (.ref f_waiting) = true)
    (a_C0_length : PySem.W.findIn K (.ref C0) "length" = some (some (.ref p_length)))
    (g_length : PySem.W.specialIn K (.ref p_length) "__get__" = some (some (.builtin "property.__get__")))
    (t_length : PySem.W.takesIn K (.ref p_length) = some true)
    (r_lengthF : PySem.W.recIn K p_length "property" = some (.ref f_length :: r_length))
    (l_length : K.lookup f_length = some ⟨oc_length, od_length, .func (PySem.W.fnOf "length" "Line.length" (defArgs s_length) (defBody s_length) (defScope s_length) .none kV_length dc_length pm_length an_length cd_length ct_length), sl_length⟩)
    (c_length : PySem.W.codeIn K cd_length "Line.length" = true)
    (i_length : PySem.W.isFn K (.ref f_length) = true)
    (k_length : PySem.W.keepIn K (.ref f_length) = true)
    (a_C0_repr : PySem.W.findIn K (.ref C0) "__repr__" = some (some (.ref f_repr)))
    (l_repr : K.lookup f_repr = some ⟨oc_repr, od_repr, .func (PySem.W.fnOf "__repr__" "Line.__repr__" (defArgs s_repr) (defBody s_repr) (defScope s_repr) .none kV_repr dc_repr pm_repr an_repr cd_repr ct_repr), sl_repr⟩)
    (c_repr : PySem.W.codeIn K cd_repr "Line.__repr__" = true)
    (i_repr : PySem.W.isFn K (.ref f_repr) = true)
    (k_repr : PySem.W.keepIn K (.ref f_repr) = true)
    (a_C0_request : PySem.W.findIn K (.ref C0) "request" = some (some (.ref f_request)))
    (l_request : K.lookup f_request = some ⟨oc_request, od_request, .func (PySem.W.fnOf "request" "Line.request" (defArgs s_request) (defBody s_request) (defScope s_request) .none kV_request dc_request pm_request an_request cd_request ct_request), sl_request⟩)
    (c_request : PySem.W.codeIn K cd_request "Line.request" = true)
    (i_request : PySem.W.isFn K (.ref f_request) = true)
    (k_request : PySem.W.keepIn K (.ref f_request) = true)
    (a_C0_release : PySem.W.findIn K (.ref C0) "release" = some (some (.ref f_release)))
    (l_release : K.lookup f_release = some ⟨oc_release, od_release, .func (PySem.W.fnOf "release" "Line.release" (defArgs s_release) (defBody s_release) (defScope s_release) .none kV_release dc_release pm_release an_release cd_release ct_release), sl_release⟩)
    (c_release : PySem.W.codeIn K cd_release "Line.release" = true)
    (i_release : PySem.W.isFn K (.ref f_release) = true)
    (k_release : PySem.W.keepIn K (.ref f_release) = true)
    (a_C1_holders : PySem.W.findIn K (.ref C1) "holders" = some (some (.ref f_Rholders)))
    (l_Rholders : K.lookup f_Rholders = some ⟨oc_Rholders, od_Rholders, .func (PySem.W.ksFn "holders" "RankLine.holders" (defArgs s_Rholders) (defBody s_Rholders) (defScope s_Rholders) .none kV_Rholders dc_Rholders pm_Rholders an_Rholders (.ref ca_Rholders) ct_Rholders cc_Rholders), sl_Rholders⟩)
    (c_Rholders : PySem.W.codeIn K (.ref ca_Rholders) "RankLine.holders" = true)
    (m_Rholders : K.lookup ca_Rholders = some ⟨oca_Rholders, dca_Rholders, .fields vs_Rholders, sca_Rholders⟩)
    (u_Rholders : vs_Rholders[2]? = some (.str fi_Rholders tf_Rholders))
    (w_Rholders : (l.prog.main.file == fi_Rholders) = true)
    (x_Rholders : K.lookup cc_Rholders = some ⟨occ_Rholders, dcc_Rholders, .cell (some (.ref C1)), scc_Rholders⟩)
    (i_Rholders : PySem.W.isFn K (.ref f_Rholders) = true)
    (k_Rholders : PySem.W.keepIn K (.ref f_Rholders) = true)
    (a_C1_free : PySem.W.findIn K (.ref C1) "free" = some (some (.ref p_Rfree)))
    (g_Rfree : PySem.W.specialIn K (.ref p_Rfree) "__get__" = some (some (.builtin "property.__get__")))
    (t_Rfree : PySem.W.takesIn K (.ref p_Rfree) = some true)
    (r_RfreeF : PySem.W.recIn K p_Rfree "property" = some (.ref f_Rfree :: r_Rfree))
    (l_Rfree : K.lookup f_Rfree = some ⟨oc_Rfree, od_Rfree, .func (PySem.W.fnOf "free" "RankLine.free" (defArgs s_Rfree) (defBody s_Rfree) (defScope s_Rfree) .none kV_Rfree dc_Rfree pm_Rfree an_Rfree cd_Rfree ct_Rfree), sl_Rfree⟩)
    (c_Rfree : PySem.W.codeIn K cd_Rfree "RankLine.free" = true)
    (i_Rfree : PySem.W.isFn K (.ref f_Rfree) = true)
    (k_Rfree : PySem.W.keepIn K (.ref f_Rfree) = true)
    (a_C1_served : PySem.W.findIn K (.ref C1) "_served" = some (some (.ref f_Rserved)))
    (a_C2_served : PySem.W.findIn K (.ref C2) "_served" = some (some (.ref f_Rserved)))
    (l_Rserved : K.lookup f_Rserved = some ⟨oc_Rserved, od_Rserved, .func (PySem.W.ksFn "_served" "RankLine._served" (defArgs s_Rserved) (defBody s_Rserved) (defScope s_Rserved) .none kV_Rserved dc_Rserved pm_Rserved an_Rserved (.ref ca_Rserved) ct_Rserved cc_Rserved), sl_Rserved⟩)
    (c_Rserved : PySem.W.codeIn K (.ref ca_Rserved) "RankLine._served" = true)
    (m_Rserved : K.lookup ca_Rserved = some ⟨oca_Rserved, dca_Rserved, .fields vs_Rserved, sca_Rserved⟩)
    (u_Rserved : vs_Rserved[2]? = some (.str fi_Rserved tf_Rserved))
    (w_Rserved : (l.prog.main.file == fi_Rserved) = true)
    (x_Rserved : K.lookup cc_Rserved = some ⟨occ_Rserved, dcc_Rserved, .cell (some (.ref C1)), scc_Rserved⟩)
    (i_Rserved : PySem.W.isFn K (.ref f_Rserved) = true)
    (k_Rserved : PySem.W.keepIn K (.ref f_Rserved) = true)
    (a_C1_waiting : PySem.W.findIn K (.ref C1) "waiting" = some (some (.ref f_Rwaiting)))
    (l_Rwaiting : K.lookup f_Rwaiting = some ⟨oc_Rwaiting, od_Rwaiting, .func (PySem.W.ksFn "waiting" "RankLine.waiting" (defArgs s_Rwaiting) (defBody s_Rwaiting) (defScope s_Rwaiting) .none kV_Rwaiting dc_Rwaiting pm_Rwaiting an_Rwaiting (.ref ca_Rwaiting) ct_Rwaiting cc_Rwaiting), sl_Rwaiting⟩)
    (c_Rwaiting : PySem.W.codeIn K (.ref ca_Rwaiting) "RankLine.waiting" = true)
    (m_Rwaiting : K.lookup ca_Rwaiting = some ⟨oca_Rwaiting, dca_Rwaiting, .fields vs_Rwaiting, sca_Rwaiting⟩)
    (u_Rwaiting : vs_Rwaiting[2]? = some (.str fi_Rwaiting tf_Rwaiting))
    (w_Rwaiting : (l.prog.main.file == fi_Rwaiting) = true)
    (x_Rwaiting : K.lookup cc_Rwaiting = some ⟨occ_Rwaiting, dcc_Rwaiting, .cell (some (.ref C1)), scc_Rwaiting⟩)
    (i_Rwaiting : PySem.W.isFn K (.ref f_Rwaiting) = true)
    (k_Rwaiting : PySem.W.keepIn K (.ref f_Rwaiting) = true)
    (a_C1_length : PySem.W.findIn K (.ref C1) "length" = some (some (.ref p_Rlength)))
    (g_Rlength : PySem.W.specialIn K (.ref p_Rlength) "__get__" = some (some (.builtin "property.__get__")))
    (t_Rlength : PySem.W.takesIn K (.ref p_Rlength) = some true)
    (r_RlengthF : PySem.W.recIn K p_Rlength "property" = some (.ref f_Rlength :: r_Rlength))
    (l_Rlength : K.lookup f_Rlength = some ⟨oc_Rlength, od_Rlength, .func (PySem.W.fnOf "length" "RankLine.length" (defArgs s_Rlength) (defBody s_Rlength) (defScope s_Rlength) .none kV_Rlength dc_Rlength pm_Rlength an_Rlength cd_Rlength ct_Rlength), sl_Rlength⟩)
    (c_Rlength : PySem.W.codeIn K cd_Rlength "RankLine.length" = true)
    (i_Rlength : PySem.W.isFn K (.ref f_Rlength) = true)
    (k_Rlength : PySem.W.keepIn K (.ref f_Rlength) = true)
    (a_C1_request : PySem.W.findIn K (.ref C1) "request" = some (some (.ref f_Rrequest)))
    (l_Rrequest : K.lookup f_Rrequest = some ⟨oc_Rrequest, od_Rrequest, .func (PySem.W.ksFn "request" "RankLine.request" (defArgs s_Rrequest) (defBody s_Rrequest) (defScope s_Rrequest) .none kV_Rrequest dc_Rrequest pm_Rrequest an_Rrequest (.ref ca_Rrequest) ct_Rrequest cc_Rrequest), sl_Rrequest⟩)
    (c_Rrequest : PySem.W.codeIn K (.ref ca_Rrequest) "RankLine.request" = true)
    (m_Rrequest : K.lookup ca_Rrequest = some ⟨oca_Rrequest, dca_Rrequest, .fields vs_Rrequest, sca_Rrequest⟩)
    (u_Rrequest : vs_Rrequest[2]? = some (.str fi_Rrequest tf_Rrequest))
    (w_Rrequest : (l.prog.main.file == fi_Rrequest) = true)
    (x_Rrequest : K.lookup cc_Rrequest = some ⟨occ_Rrequest, dcc_Rrequest, .cell (some (.ref C1)), scc_Rrequest⟩)
    (i_Rrequest : PySem.W.isFn K (.ref f_Rrequest) = true)
    (k_Rrequest : PySem.W.keepIn K (.ref f_Rrequest) = true)
    (a_C1_release : PySem.W.findIn K (.ref C1) "release" = some (some (.ref f_Rrelease)))
    (l_Rrelease : K.lookup f_Rrelease = some ⟨oc_Rrelease, od_Rrelease, .func (PySem.W.ksFn "release" "RankLine.release" (defArgs s_Rrelease) (defBody s_Rrelease) (defScope s_Rrelease) .none kV_Rrelease dc_Rrelease pm_Rrelease an_Rrelease (.ref ca_Rrelease) ct_Rrelease cc_Rrelease), sl_Rrelease⟩)
    (c_Rrelease : PySem.W.codeIn K (.ref ca_Rrelease) "RankLine.release" = true)
    (m_Rrelease : K.lookup ca_Rrelease = some ⟨oca_Rrelease, dca_Rrelease, .fields vs_Rrelease, sca_Rrelease⟩)
    (u_Rrelease : vs_Rrelease[2]? = some (.str fi_Rrelease tf_Rrelease))
    (w_Rrelease : (l.prog.main.file == fi_Rrelease) = true)
    (x_Rrelease : K.lookup cc_Rrelease = some ⟨occ_Rrelease, dcc_Rrelease, .cell (some (.ref C1)), scc_Rrelease⟩)
    (i_Rrelease : PySem.W.isFn K (.ref f_Rrelease) = true)
    (k_Rrelease : PySem.W.keepIn K (.ref f_Rrelease) = true)
    (a_C2_holders : PySem.W.findIn K (.ref C2) "holders" = some (some (.ref f_Pholders)))
    (l_Pholders : K.lookup f_Pholders = some ⟨oc_Pholders, od_Pholders, .func (PySem.W.ksFn "holders" "PreemptLine.holders" (defArgs s_Pholders) (defBody s_Pholders) (defScope s_Pholders) .none kV_Pholders dc_Pholders pm_Pholders an_Pholders (.ref ca_Pholders) ct_Pholders cc_Pholders), sl_Pholders⟩)
    (c_Pholders : PySem.W.codeIn K (.ref ca_Pholders) "PreemptLine.holders" = true)
    (m_Pholders : K.lookup ca_Pholders = some ⟨oca_Pholders, dca_Pholders, .fields vs_Pholders, sca_Pholders⟩)
    (u_Pholders : vs_Pholders[2]? = some (.str fi_Pholders tf_Pholders))
    (w_Pholders : (l.prog.main.file == fi_Pholders) = true)
    (x_Pholders : K.lookup cc_Pholders = some ⟨occ_Pholders, dcc_Pholders, .cell (some (.ref C2)), scc_Pholders⟩)
    (i_Pholders : PySem.W.isFn K (.ref f_Pholders) = true)
    (k_Pholders : PySem.W.keepIn K (.ref f_Pholders) = true)
    (a_C2_free : PySem.W.findIn K (.ref C2) "free" = some (some (.ref p_Pfree)))
    (g_Pfree : PySem.W.specialIn K (.ref p_Pfree) "__get__" = some (some (.builtin "property.__get__")))
    (t_Pfree : PySem.W.takesIn K (.ref p_Pfree) = some true)
    (r_PfreeF : PySem.W.recIn K p_Pfree "property" = some (.ref f_Pfree :: r_Pfree))
    (l_Pfree : K.lookup f_Pfree = some ⟨oc_Pfree, od_Pfree, .func (PySem.W.fnOf "free" "PreemptLine.free" (defArgs s_Pfree) (defBody s_Pfree) (defScope s_Pfree) .none kV_Pfree dc_Pfree pm_Pfree an_Pfree cd_Pfree ct_Pfree), sl_Pfree⟩)
    (c_Pfree : PySem.W.codeIn K cd_Pfree "PreemptLine.free" = true)
    (i_Pfree : PySem.W.isFn K (.ref f_Pfree) = true)
    (k_Pfree : PySem.W.keepIn K (.ref f_Pfree) = true)
    (a_C2_waiting : PySem.W.findIn K (.ref C2) "waiting" = some (some (.ref f_Pwaiting)))
    (l_Pwaiting : K.lookup f_Pwaiting = some ⟨oc_Pwaiting, od_Pwaiting, .func (PySem.W.ksFn "waiting" "PreemptLine.waiting" (defArgs s_Pwaiting) (defBody s_Pwaiting) (defScope s_Pwaiting) .none kV_Pwaiting dc_Pwaiting pm_Pwaiting an_Pwaiting (.ref ca_Pwaiting) ct_Pwaiting cc_Pwaiting), sl_Pwaiting⟩)
    (c_Pwaiting : PySem.W.codeIn K (.ref ca_Pwaiting) "PreemptLine.waiting" = true)
    (m_Pwaiting : K.lookup ca_Pwaiting = some ⟨oca_Pwaiting, dca_Pwaiting, .fields vs_Pwaiting, sca_Pwaiting⟩)
    (u_Pwaiting : vs_Pwaiting[2]? = some (.str fi_Pwaiting tf_Pwaiting))
    (w_Pwaiting : (l.prog.main.file == fi_Pwaiting) = true)
    (x_Pwaiting : K.lookup cc_Pwaiting = some ⟨occ_Pwaiting, dcc_Pwaiting, .cell (some (.ref C2)), scc_Pwaiting⟩)
    (i_Pwaiting : PySem.W.isFn K (.ref f_Pwaiting) = true)
    (k_Pwaiting : PySem.W.keepIn K (.ref f_Pwaiting) = true)
    (a_C2_length : PySem.W.findIn K (.ref C2) "length" = some (some (.ref p_Plength)))
    (g_Plength : PySem.W.specialIn K (.ref p_Plength) "__get__" = some (some (.builtin "property.__get__")))
    (t_Plength : PySem.W.takesIn K (.ref p_Plength) = some true)
    (r_PlengthF : PySem.W.recIn K p_Plength "property" = some (.ref f_Plength :: r_Plength))
    (l_Plength : K.lookup f_Plength = some ⟨oc_Plength, od_Plength, .func (PySem.W.fnOf "length" "PreemptLine.length" (defArgs s_Plength) (defBody s_Plength) (defScope s_Plength) .none kV_Plength dc_Plength pm_Plength an_Plength cd_Plength ct_Plength), sl_Plength⟩)
    (c_Plength : PySem.W.codeIn K cd_Plength "PreemptLine.length" = true)
    (i_Plength : PySem.W.isFn K (.ref f_Plength) = true)
    (k_Plength : PySem.W.keepIn K (.ref f_Plength) = true)
    (a_C2_repr : PySem.W.findIn K (.ref C2) "__repr__" = some (some (.ref f_Prepr)))
    (l_Prepr : K.lookup f_Prepr = some ⟨oc_Prepr, od_Prepr, .func (PySem.W.fnOf "__repr__" "PreemptLine.__repr__" (defArgs s_Prepr) (defBody s_Prepr) (defScope s_Prepr) .none kV_Prepr dc_Prepr pm_Prepr an_Prepr cd_Prepr ct_Prepr), sl_Prepr⟩)
    (c_Prepr : PySem.W.codeIn K cd_Prepr "PreemptLine.__repr__" = true)
    (i_Prepr : PySem.W.isFn K (.ref f_Prepr) = true)
    (k_Prepr : PySem.W.keepIn K (.ref f_Prepr) = true)
    (a_C2_request : PySem.W.findIn K (.ref C2) "request" = some (some (.ref f_Prequest)))
    (l_Prequest : K.lookup f_Prequest = some ⟨oc_Prequest, od_Prequest, .func (PySem.W.ksFn "request" "PreemptLine.request" (defArgs s_Prequest) (defBody s_Prequest) (defScope s_Prequest) .none kV_Prequest dc_Prequest pm_Prequest an_Prequest (.ref ca_Prequest) ct_Prequest cc_Prequest), sl_Prequest⟩)
    (c_Prequest : PySem.W.codeIn K (.ref ca_Prequest) "PreemptLine.request" = true)
    (m_Prequest : K.lookup ca_Prequest = some ⟨oca_Prequest, dca_Prequest, .fields vs_Prequest, sca_Prequest⟩)
    (u_Prequest : vs_Prequest[2]? = some (.str fi_Prequest tf_Prequest))
    (w_Prequest : (l.prog.main.file == fi_Prequest) = true)
    (x_Prequest : K.lookup cc_Prequest = some ⟨occ_Prequest, dcc_Prequest, .cell (some (.ref C2)), scc_Prequest⟩)
    (i_Prequest : PySem.W.isFn K (.ref f_Prequest) = true)
    (k_Prequest : PySem.W.keepIn K (.ref f_Prequest) = true)
    (a_C2_release : PySem.W.findIn K (.ref C2) "release" = some (some (.ref f_Prelease)))
    (l_Prelease : K.lookup f_Prelease = some ⟨oc_Prelease, od_Prelease, .func (PySem.W.ksFn "release" "PreemptLine.release" (defArgs s_Prelease) (defBody s_Prelease) (defScope s_Prelease) .none kV_Prelease dc_Prelease pm_Prelease an_Prelease (.ref ca_Prelease) ct_Prelease cc_Prelease), sl_Prelease⟩)
    (c_Prelease : PySem.W.codeIn K (.ref ca_Prelease) "PreemptLine.release" = true)
    (m_Prelease : K.lookup ca_Prelease = some ⟨oca_Prelease, dca_Prelease, .fields vs_Prelease, sca_Prelease⟩)
    (u_Prelease : vs_Prelease[2]? = some (.str fi_Prelease tf_Prelease))
    (w_Prelease : (l.prog.main.file == fi_Prelease) = true)
    (x_Prelease : K.lookup cc_Prelease = some ⟨occ_Prelease, dcc_Prelease, .cell (some (.ref C2)), scc_Prelease⟩)
    (i_Prelease : PySem.W.isFn K (.ref f_Prelease) = true)
    (k_Prelease : PySem.W.keepIn K (.ref f_Prelease) = true)
    (a_C2_victim : PySem.W.findIn K (.ref C2) "_victim" = some (some (.ref f_Pvictim)))
    (l_Pvictim : K.lookup f_Pvictim = some ⟨oc_Pvictim, od_Pvictim, .func (PySem.W.fnOf "_victim" "PreemptLine._victim" (defArgs s_Pvictim) (defBody s_Pvictim) (defScope s_Pvictim) .none kV_Pvictim dc_Pvictim pm_Pvictim an_Pvictim cd_Pvictim ct_Pvictim), sl_Pvictim⟩)
    (c_Pvictim : PySem.W.codeIn K cd_Pvictim "PreemptLine._victim" = true)
    (i_Pvictim : PySem.W.isFn K (.ref f_Pvictim) = true)
    (k_Pvictim : PySem.W.keepIn K (.ref f_Pvictim) = true)
    (a_C2_preempt : PySem.W.findIn K (.ref C2) "preempt" = some (some (.ref f_Ppreempt)))
    (l_Ppreempt : K.lookup f_Ppreempt = some ⟨oc_Ppreempt, od_Ppreempt, .func (PySem.W.fnOf "preempt" "PreemptLine.preempt" (defArgs s_Ppreempt) (defBody s_Ppreempt) (defScope s_Ppreempt) .none kV_Ppreempt dc_Ppreempt pm_Ppreempt an_Ppreempt cd_Ppreempt ct_Ppreempt), sl_Ppreempt⟩)
    (c_Ppreempt : PySem.W.codeIn K cd_Ppreempt "PreemptLine.preempt" = true)
    (i_Ppreempt : PySem.W.isFn K (.ref f_Ppreempt) = true)
    (k_Ppreempt : PySem.W.keepIn K (.ref f_Ppreempt) = true)
    (a_law_cell_at : PySem.W.nsIn K mainGlobals "_law_cell_at" = some (some (.ref f_law_cell_at)))
    (l_law_cell_at : K.lookup f_law_cell_at = some ⟨oc_law_cell_at, od_law_cell_at, .func (PySem.W.fnOf "_law_cell_at" "_law_cell_at" (defArgs s_law_cell_at) (defBody s_law_cell_at) (defScope s_law_cell_at) .none kV_law_cell_at dc_law_cell_at pm_law_cell_at an_law_cell_at cd_law_cell_at ct_law_cell_at), sl_law_cell_at⟩)
    (c_law_cell_at : PySem.W.codeIn K cd_law_cell_at "_law_cell_at" = true)
    (k_law_cell_at : PySem.W.keepIn K (.ref f_law_cell_at) = true)
    (a_law_same : PySem.W.nsIn K mainGlobals "_law_same" = some (some (.ref f_law_same)))
    (l_law_same : K.lookup f_law_same = some ⟨oc_law_same, od_law_same, .func (PySem.W.fnOf "_law_same" "_law_same" (defArgs s_law_same) (defBody s_law_same) (defScope s_law_same) .none kV_law_same dc_law_same pm_law_same an_law_same cd_law_same ct_law_same), sl_law_same⟩)
    (c_law_same : PySem.W.codeIn K cd_law_same "_law_same" = true)
    (k_law_same : PySem.W.keepIn K (.ref f_law_same) = true)
    (a_law_released : PySem.W.nsIn K mainGlobals "_law_released" = some (some (.ref f_law_released)))
    (l_law_released : K.lookup f_law_released = some ⟨oc_law_released, od_law_released, .func (PySem.W.fnOf "_law_released" "_law_released" (defArgs s_law_released) (defBody s_law_released) (defScope s_law_released) .none kV_law_released dc_law_released pm_law_released an_law_released cd_law_released ct_law_released), sl_law_released⟩)
    (c_law_released : PySem.W.codeIn K cd_law_released "_law_released" = true)
    (k_law_released : PySem.W.keepIn K (.ref f_law_released) = true)
    (a_law_first_case : PySem.W.nsIn K mainGlobals "_law_first_case" = some (some (.ref f_law_first_case)))
    (l_law_first_case : K.lookup f_law_first_case = some ⟨oc_law_first_case, od_law_first_case, .func (PySem.W.fnOf "_law_first_case" "_law_first_case" (defArgs s_law_first_case) (defBody s_law_first_case) (defScope s_law_first_case) .none kV_law_first_case dc_law_first_case pm_law_first_case an_law_first_case cd_law_first_case ct_law_first_case), sl_law_first_case⟩)
    (c_law_first_case : PySem.W.codeIn K cd_law_first_case "_law_first_case" = true)
    (k_law_first_case : PySem.W.keepIn K (.ref f_law_first_case) = true)
    (a_law_second_case : PySem.W.nsIn K mainGlobals "_law_second_case" = some (some (.ref f_law_second_case)))
    (l_law_second_case : K.lookup f_law_second_case = some ⟨oc_law_second_case, od_law_second_case, .func (PySem.W.fnOf "_law_second_case" "_law_second_case" (defArgs s_law_second_case) (defBody s_law_second_case) (defScope s_law_second_case) .none kV_law_second_case dc_law_second_case pm_law_second_case an_law_second_case cd_law_second_case ct_law_second_case), sl_law_second_case⟩)
    (c_law_second_case : PySem.W.codeIn K cd_law_second_case "_law_second_case" = true)
    (k_law_second_case : PySem.W.keepIn K (.ref f_law_second_case) = true)
    (a_law_third_case : PySem.W.nsIn K mainGlobals "_law_third_case" = some (some (.ref f_law_third_case)))
    (l_law_third_case : K.lookup f_law_third_case = some ⟨oc_law_third_case, od_law_third_case, .func (PySem.W.fnOf "_law_third_case" "_law_third_case" (defArgs s_law_third_case) (defBody s_law_third_case) (defScope s_law_third_case) .none kV_law_third_case dc_law_third_case pm_law_third_case an_law_third_case cd_law_third_case ct_law_third_case), sl_law_third_case⟩)
    (c_law_third_case : PySem.W.codeIn K cd_law_third_case "_law_third_case" = true)
    (k_law_third_case : PySem.W.keepIn K (.ref f_law_third_case) = true)
    (a_law_fourth_case : PySem.W.nsIn K mainGlobals "_law_fourth_case" = some (some (.ref f_law_fourth_case)))
    (l_law_fourth_case : K.lookup f_law_fourth_case = some ⟨oc_law_fourth_case, od_law_fourth_case, .func (PySem.W.fnOf "_law_fourth_case" "_law_fourth_case" (defArgs s_law_fourth_case) (defBody s_law_fourth_case) (defScope s_law_fourth_case) .none kV_law_fourth_case dc_law_fourth_case pm_law_fourth_case an_law_fourth_case cd_law_fourth_case ct_law_fourth_case), sl_law_fourth_case⟩)
    (c_law_fourth_case : PySem.W.codeIn K cd_law_fourth_case "_law_fourth_case" = true)
    (k_law_fourth_case : PySem.W.keepIn K (.ref f_law_fourth_case) = true)
    (a_law_fifth_case : PySem.W.nsIn K mainGlobals "_law_fifth_case" = some (some (.ref f_law_fifth_case)))
    (l_law_fifth_case : K.lookup f_law_fifth_case = some ⟨oc_law_fifth_case, od_law_fifth_case, .func (PySem.W.fnOf "_law_fifth_case" "_law_fifth_case" (defArgs s_law_fifth_case) (defBody s_law_fifth_case) (defScope s_law_fifth_case) .none kV_law_fifth_case dc_law_fifth_case pm_law_fifth_case an_law_fifth_case cd_law_fifth_case ct_law_fifth_case), sl_law_fifth_case⟩)
    (c_law_fifth_case : PySem.W.codeIn K cd_law_fifth_case "_law_fifth_case" = true)
    (k_law_fifth_case : PySem.W.keepIn K (.ref f_law_fifth_case) = true)
    (a_law : PySem.W.nsIn K mainGlobals "law" = some (some (.ref f_law)))
    (l_law : K.lookup f_law = some ⟨oc_law, od_law, .func (PySem.W.fnOf "law" "law" (defArgs s_law) (defBody s_law) (defScope s_law) .none kV_law dc_law pm_law an_law cd_law ct_law), sl_law⟩)
    (c_law : PySem.W.codeIn K cd_law "law" = true)
    (k_law : PySem.W.keepIn K (.ref f_law) = true)
    (u_C1_C1_holders : PySem.W.ks_superIn K C1 C1 "holders" = some (some (.ref f_holders)))
    (mro_C1_C1 : PySem.W.mroIn K C1 (.ref C1) = some true)
    (fn_holders : PySem.W.fnIn K f_holders = true)
    (ty_holders : PySem.W.typeIn K (.ref f_holders) = some (.type "function"))
    (u_C2_C1_holders : PySem.W.ks_superIn K C2 C1 "holders" = some (some (.ref f_holders)))
    (mro_C2_C1 : PySem.W.mroIn K C2 (.ref C1) = some true)
    (u_C1_C1_served : PySem.W.ks_superIn K C1 C1 "_served" = some (some (.ref f_served)))
    (fn_served : PySem.W.fnIn K f_served = true)
    (ty_served : PySem.W.typeIn K (.ref f_served) = some (.type "function"))
    (u_C2_C1_served : PySem.W.ks_superIn K C2 C1 "_served" = some (some (.ref f_served)))
    (u_C1_C1_waiting : PySem.W.ks_superIn K C1 C1 "waiting" = some (some (.ref f_waiting)))
    (fn_waiting : PySem.W.fnIn K f_waiting = true)
    (ty_waiting : PySem.W.typeIn K (.ref f_waiting) = some (.type "function"))
    (u_C2_C1_waiting : PySem.W.ks_superIn K C2 C1 "waiting" = some (some (.ref f_waiting)))
    (u_C1_C1_request : PySem.W.ks_superIn K C1 C1 "request" = some (some (.ref f_request)))
    (fn_request : PySem.W.fnIn K f_request = true)
    (ty_request : PySem.W.typeIn K (.ref f_request) = some (.type "function"))
    (u_C2_C1_request : PySem.W.ks_superIn K C2 C1 "request" = some (some (.ref f_request)))
    (u_C1_C1_release : PySem.W.ks_superIn K C1 C1 "release" = some (some (.ref f_release)))
    (fn_release : PySem.W.fnIn K f_release = true)
    (ty_release : PySem.W.typeIn K (.ref f_release) = some (.type "function"))
    (u_C2_C1_release : PySem.W.ks_superIn K C2 C1 "release" = some (some (.ref f_release)))
    (u_C2_C2_holders : PySem.W.ks_superIn K C2 C2 "holders" = some (some (.ref f_Rholders)))
    (mro_C2_C2 : PySem.W.mroIn K C2 (.ref C2) = some true)
    (fn_Rholders : PySem.W.fnIn K f_Rholders = true)
    (ty_Rholders : PySem.W.typeIn K (.ref f_Rholders) = some (.type "function"))
    (u_C2_C2_waiting : PySem.W.ks_superIn K C2 C2 "waiting" = some (some (.ref f_Rwaiting)))
    (fn_Rwaiting : PySem.W.fnIn K f_Rwaiting = true)
    (ty_Rwaiting : PySem.W.typeIn K (.ref f_Rwaiting) = some (.type "function"))
    (u_C2_C2_request : PySem.W.ks_superIn K C2 C2 "request" = some (some (.ref f_Rrequest)))
    (fn_Rrequest : PySem.W.fnIn K f_Rrequest = true)
    (ty_Rrequest : PySem.W.typeIn K (.ref f_Rrequest) = some (.type "function"))
    (u_C2_C2_release : PySem.W.ks_superIn K C2 C2 "release" = some (some (.ref f_Rrelease)))
    (fn_Rrelease : PySem.W.fnIn K f_Rrelease = true)
    (ty_Rrelease : PySem.W.typeIn K (.ref f_Rrelease) = some (.type "function"))
    (nosup : (l.prog.main.scope.names.lookup ("super" : Str)).isSome = false)
    (opq : PySem.W.nsIn K cStatics "thirdparty.any" = some none)
    : ∃ fd : FuncData, (∀ (s : Shared) (v : Value), BindsTo s fd ⟨[v], []⟩ [("_law_script", v)]) ∧ ∀ base : Heap, K.In base → base.Ns mainGlobals mg → FnD l.prog w K mg base 11 fa fd ["_law_script"] dLaw := by
  have e := hfa.symm.trans (PySem.W.mg_of X G a_law)
  cases e
  have F_is_between := fun_mk (st := s_is_between) l_is_between c_is_between k_is_between
  have B_is_between := F_is_between.binds (ps := ["thing", "low", "high"]) fun _ _ _ _ _ _ us hl => match us, hl with | [_, _, _], _ => rfl
  have F_check_number := fun_mk (st := s_check_number) l_check_number c_check_number k_check_number
  have B_check_number := F_check_number.binds (ps := ["thing", "low", "high", "name"]) fun _ _ _ _ _ _ us hl => match us, hl with | [_, _, _, _], _ => rfl
  have F_check_process := fun_mk (st := s_check_process) l_check_process c_check_process k_check_process
  have B_check_process := F_check_process.binds (ps := ["process"]) fun _ _ _ _ _ _ us hl => match us, hl with | [_], _ => rfl
  have F_check_rank := fun_mk (st := s_check_rank) l_check_rank c_check_rank k_check_rank
  have B_check_rank := F_check_rank.binds (ps := ["rank"]) fun _ _ _ _ _ _ us hl => match us, hl with | [_], _ => rfl
  have F_check_victims := fun_mk (st := s_check_victims) l_check_victims c_check_victims k_check_victims
  have B_check_victims := F_check_victims.binds (ps := ["victims"]) fun _ _ _ _ _ _ us hl => match us, hl with | [_], _ => rfl
  have F_init := fun_mk (st := s_init) l_init c_init k_init
  have B_init := F_init.binds (ps := ["self", "units"]) fun _ _ _ _ _ _ us hl => match us, hl with | [_, _], _ => rfl
  have F_holders := fun_mk (st := s_holders) l_holders c_holders k_holders
  have B_holders := F_holders.binds (ps := ["self"]) fun _ _ _ _ _ _ us hl => match us, hl with | [_], _ => rfl
  have F_free := fun_mk (st := s_free) l_free c_free k_free
  have B_free := F_free.binds (ps := ["self"]) fun _ _ _ _ _ _ us hl => match us, hl with | [_], _ => rfl
  have F_served := fun_mk (st := s_served) l_served c_served k_served
  have B_served := F_served.binds (ps := ["self"]) fun _ _ _ _ _ _ us hl => match us, hl with | [_], _ => rfl
  have F_waiting := fun_mk (st := s_waiting) l_waiting c_waiting k_waiting
  have B_waiting := F_waiting.binds (ps := ["self"]) fun _ _ _ _ _ _ us hl => match us, hl with | [_], _ => rfl
  have F_length := fun_mk (st := s_length) l_length c_length k_length
  have B_length := F_length.binds (ps := ["self"]) fun _ _ _ _ _ _ us hl => match us, hl with | [_], _ => rfl
  have F_repr := fun_mk (st := s_repr) l_repr c_repr k_repr
  have B_repr := F_repr.binds (ps := ["self"]) fun _ _ _ _ _ _ us hl => match us, hl with | [_], _ => rfl
  have F_request := fun_mk (st := s_request) l_request c_request k_request
  have B_request := F_request.binds (ps := ["self", "process", "rank"]) fun _ _ _ _ _ _ us hl => match us, hl with | [_, _, _], _ => rfl
  have F_release := fun_mk (st := s_release) l_release c_release k_release
  have B_release := F_release.binds (ps := ["self", "process"]) fun _ _ _ _ _ _ us hl => match us, hl with | [_, _], _ => rfl
  have F_Rholders : SFun l.prog K "holders" "RankLine.holders" s_Rholders f_Rholders _ (.ref ca_Rholders) cc_Rholders C1 := ⟨⟨_, _, _, _, _, _, _, _, rfl, l_Rholders, c_Rholders⟩, k_Rholders, ⟨⟨_, _, _, l_Rholders⟩, ⟨_, rfl, rfl⟩, ⟨_, _, _, _, _, rfl, m_Rholders, rfl, u_Rholders, w_Rholders⟩, ⟨_, x_Rholders, rfl⟩, nosup⟩⟩
  have B_Rholders := F_Rholders.binds (ps := ["self"]) fun _ _ _ _ _ us hl => match us, hl with | [_], _ => rfl
  have F_Rfree := fun_mk (st := s_Rfree) l_Rfree c_Rfree k_Rfree
  have B_Rfree := F_Rfree.binds (ps := ["self"]) fun _ _ _ _ _ _ us hl => match us, hl with | [_], _ => rfl
  have F_Rserved : SFun l.prog K "_served" "RankLine._served" s_Rserved f_Rserved _ (.ref ca_Rserved) cc_Rserved C1 := ⟨⟨_, _, _, _, _, _, _, _, rfl, l_Rserved, c_Rserved⟩, k_Rserved, ⟨⟨_, _, _, l_Rserved⟩, ⟨_, rfl, rfl⟩, ⟨_, _, _, _, _, rfl, m_Rserved, rfl, u_Rserved, w_Rserved⟩, ⟨_, x_Rserved, rfl⟩, nosup⟩⟩
  have B_Rserved := F_Rserved.binds (ps := ["self"]) fun _ _ _ _ _ us hl => match us, hl with | [_], _ => rfl
  have F_Rwaiting : SFun l.prog K "waiting" "RankLine.waiting" s_Rwaiting f_Rwaiting _ (.ref ca_Rwaiting) cc_Rwaiting C1 := ⟨⟨_, _, _, _, _, _, _, _, rfl, l_Rwaiting, c_Rwaiting⟩, k_Rwaiting, ⟨⟨_, _, _, l_Rwaiting⟩, ⟨_, rfl, rfl⟩, ⟨_, _, _, _, _, rfl, m_Rwaiting, rfl, u_Rwaiting, w_Rwaiting⟩, ⟨_, x_Rwaiting, rfl⟩, nosup⟩⟩
  have B_Rwaiting := F_Rwaiting.binds (ps := ["self"]) fun _ _ _ _ _ us hl => match us, hl with | [_], _ => rfl
  have F_Rlength := fun_mk (st := s_Rlength) l_Rlength c_Rlength k_Rlength
  have B_Rlength := F_Rlength.binds (ps := ["self"]) fun _ _ _ _ _ _ us hl => match us, hl with | [_], _ => rfl
  have F_Rrequest : SFun l.prog K "request" "RankLine.request" s_Rrequest f_Rrequest _ (.ref ca_Rrequest) cc_Rrequest C1 := ⟨⟨_, _, _, _, _, _, _, _, rfl, l_Rrequest, c_Rrequest⟩, k_Rrequest, ⟨⟨_, _, _, l_Rrequest⟩, ⟨_, rfl, rfl⟩, ⟨_, _, _, _, _, rfl, m_Rrequest, rfl, u_Rrequest, w_Rrequest⟩, ⟨_, x_Rrequest, rfl⟩, nosup⟩⟩
  have B_Rrequest := F_Rrequest.binds (ps := ["self", "process", "rank"]) fun _ _ _ _ _ us hl => match us, hl with | [_, _, _], _ => rfl
  have F_Rrelease : SFun l.prog K "release" "RankLine.release" s_Rrelease f_Rrelease _ (.ref ca_Rrelease) cc_Rrelease C1 := ⟨⟨_, _, _, _, _, _, _, _, rfl, l_Rrelease, c_Rrelease⟩, k_Rrelease, ⟨⟨_, _, _, l_Rrelease⟩, ⟨_, rfl, rfl⟩, ⟨_, _, _, _, _, rfl, m_Rrelease, rfl, u_Rrelease, w_Rrelease⟩, ⟨_, x_Rrelease, rfl⟩, nosup⟩⟩
  have B_Rrelease := F_Rrelease.binds (ps := ["self", "process"]) fun _ _ _ _ _ us hl => match us, hl with | [_, _], _ => rfl
  have F_Pholders : SFun l.prog K "holders" "PreemptLine.holders" s_Pholders f_Pholders _ (.ref ca_Pholders) cc_Pholders C2 := ⟨⟨_, _, _, _, _, _, _, _, rfl, l_Pholders, c_Pholders⟩, k_Pholders, ⟨⟨_, _, _, l_Pholders⟩, ⟨_, rfl, rfl⟩, ⟨_, _, _, _, _, rfl, m_Pholders, rfl, u_Pholders, w_Pholders⟩, ⟨_, x_Pholders, rfl⟩, nosup⟩⟩
  have B_Pholders := F_Pholders.binds (ps := ["self"]) fun _ _ _ _ _ us hl => match us, hl with | [_], _ => rfl
  have F_Pfree := fun_mk (st := s_Pfree) l_Pfree c_Pfree k_Pfree
  have B_Pfree := F_Pfree.binds (ps := ["self"]) fun _ _ _ _ _ _ us hl => match us, hl with | [_], _ => rfl
  have F_Pwaiting : SFun l.prog K "waiting" "PreemptLine.waiting" s_Pwaiting f_Pwaiting _ (.ref ca_Pwaiting) cc_Pwaiting C2 := ⟨⟨_, _, _, _, _, _, _, _, rfl, l_Pwaiting, c_Pwaiting⟩, k_Pwaiting, ⟨⟨_, _, _, l_Pwaiting⟩, ⟨_, rfl, rfl⟩, ⟨_, _, _, _, _, rfl, m_Pwaiting, rfl, u_Pwaiting, w_Pwaiting⟩, ⟨_, x_Pwaiting, rfl⟩, nosup⟩⟩
  have B_Pwaiting := F_Pwaiting.binds (ps := ["self"]) fun _ _ _ _ _ us hl => match us, hl with | [_], _ => rfl
  have F_Plength := fun_mk (st := s_Plength) l_Plength c_Plength k_Plength
  have B_Plength := F_Plength.binds (ps := ["self"]) fun _ _ _ _ _ _ us hl => match us, hl with | [_], _ => rfl
  have F_Prepr := fun_mk (st := s_Prepr) l_Prepr c_Prepr k_Prepr
  have B_Prepr := F_Prepr.binds (ps := ["self"]) fun _ _ _ _ _ _ us hl => match us, hl with | [_], _ => rfl
  have F_Prequest : SFun l.prog K "request" "PreemptLine.request" s_Prequest f_Prequest _ (.ref ca_Prequest) cc_Prequest C2 := ⟨⟨_, _, _, _, _, _, _, _, rfl, l_Prequest, c_Prequest⟩, k_Prequest, ⟨⟨_, _, _, l_Prequest⟩, ⟨_, rfl, rfl⟩, ⟨_, _, _, _, _, rfl, m_Prequest, rfl, u_Prequest, w_Prequest⟩, ⟨_, x_Prequest, rfl⟩, nosup⟩⟩
  have B_Prequest := F_Prequest.binds (ps := ["self", "process", "rank"]) fun _ _ _ _ _ us hl => match us, hl with | [_, _, _], _ => rfl
  have F_Prelease : SFun l.prog K "release" "PreemptLine.release" s_Prelease f_Prelease _ (.ref ca_Prelease) cc_Prelease C2 := ⟨⟨_, _, _, _, _, _, _, _, rfl, l_Prelease, c_Prelease⟩, k_Prelease, ⟨⟨_, _, _, l_Prelease⟩, ⟨_, rfl, rfl⟩, ⟨_, _, _, _, _, rfl, m_Prelease, rfl, u_Prelease, w_Prelease⟩, ⟨_, x_Prelease, rfl⟩, nosup⟩⟩
  have B_Prelease := F_Prelease.binds (ps := ["self", "process"]) fun _ _ _ _ _ us hl => match us, hl with | [_, _], _ => rfl
  have F_Pvictim := fun_mk (st := s_Pvictim) l_Pvictim c_Pvictim k_Pvictim
  have B_Pvictim := F_Pvictim.binds (ps := ["self", "rank", "victims"]) fun _ _ _ _ _ _ us hl => match us, hl with | [_, _, _], _ => rfl
  have F_Ppreempt := fun_mk (st := s_Ppreempt) l_Ppreempt c_Ppreempt k_Ppreempt
  have B_Ppreempt := F_Ppreempt.binds (ps := ["self", "process", "rank", "victims"]) fun _ _ _ _ _ _ us hl => match us, hl with | [_, _, _, _], _ => rfl
  have F_law_cell_at := fun_mk (st := s_law_cell_at) l_law_cell_at c_law_cell_at k_law_cell_at
  have B_law_cell_at := F_law_cell_at.binds (ps := ["_law_script", "_law_k"]) fun _ _ _ _ _ _ us hl => match us, hl with | [_, _], _ => rfl
  have F_law_same := fun_mk (st := s_law_same) l_law_same c_law_same k_law_same
  have B_law_same := F_law_same.binds (ps := ["_law_actual", "_law_expected"]) fun _ _ _ _ _ _ us hl => match us, hl with | [_, _], _ => rfl
  have F_law_released := fun_mk (st := s_law_released) l_law_released c_law_released k_law_released
  have B_law_released := F_law_released.binds (ps := ["_law_line", "_law_who"]) fun _ _ _ _ _ _ us hl => match us, hl with | [_, _], _ => rfl
  have F_law_first_case := fun_mk (st := s_law_first_case) l_law_first_case c_law_first_case k_law_first_case
  have B_law_first_case := F_law_first_case.binds (ps := ["_law_shift"]) fun _ _ _ _ _ _ us hl => match us, hl with | [_], _ => rfl
  have F_law_second_case := fun_mk (st := s_law_second_case) l_law_second_case c_law_second_case k_law_second_case
  have B_law_second_case := F_law_second_case.binds (ps := ["_law_shift"]) fun _ _ _ _ _ _ us hl => match us, hl with | [_], _ => rfl
  have F_law_third_case := fun_mk (st := s_law_third_case) l_law_third_case c_law_third_case k_law_third_case
  have B_law_third_case := F_law_third_case.binds (ps := ["_law_shift"]) fun _ _ _ _ _ _ us hl => match us, hl with | [_], _ => rfl
  have F_law_fourth_case := fun_mk (st := s_law_fourth_case) l_law_fourth_case c_law_fourth_case k_law_fourth_case
  have B_law_fourth_case := F_law_fourth_case.binds (ps := ["_law_shift"]) fun _ _ _ _ _ _ us hl => match us, hl with | [_], _ => rfl
  have F_law_fifth_case := fun_mk (st := s_law_fifth_case) l_law_fifth_case c_law_fifth_case k_law_fifth_case
  have B_law_fifth_case := F_law_fifth_case.binds (ps := ["_law_shift"]) fun _ _ _ _ _ _ us hl => match us, hl with | [_], _ => rfl
  have F_law := fun_mk (st := s_law) l_law c_law k_law
  have B_law := F_law.binds (ps := ["_law_script"]) fun _ _ _ _ _ _ us hl => match us, hl with | [_], _ => rfl
  have T_C1_C1_holders : SupTo K C1 C1 "holders" f_holders := ⟨Option.isSome_iff_exists.mp ic_C1, Option.isSome_iff_exists.mp ic_C1, mro_C1_C1, u_C1_C1_holders, fn_holders, ty_holders, opq⟩
  have T_C2_C1_holders : SupTo K C2 C1 "holders" f_holders := ⟨Option.isSome_iff_exists.mp ic_C2, Option.isSome_iff_exists.mp ic_C1, mro_C2_C1, u_C2_C1_holders, fn_holders, ty_holders, opq⟩
  have T_C1_C1_served : SupTo K C1 C1 "_served" f_served := ⟨Option.isSome_iff_exists.mp ic_C1, Option.isSome_iff_exists.mp ic_C1, mro_C1_C1, u_C1_C1_served, fn_served, ty_served, opq⟩
  have T_C2_C1_served : SupTo K C2 C1 "_served" f_served := ⟨Option.isSome_iff_exists.mp ic_C2, Option.isSome_iff_exists.mp ic_C1, mro_C2_C1, u_C2_C1_served, fn_served, ty_served, opq⟩
  have T_C1_C1_waiting : SupTo K C1 C1 "waiting" f_waiting := ⟨Option.isSome_iff_exists.mp ic_C1, Option.isSome_iff_exists.mp ic_C1, mro_C1_C1, u_C1_C1_waiting, fn_waiting, ty_waiting, opq⟩
  have T_C2_C1_waiting : SupTo K C2 C1 "waiting" f_waiting := ⟨Option.isSome_iff_exists.mp ic_C2, Option.isSome_iff_exists.mp ic_C1, mro_C2_C1, u_C2_C1_waiting, fn_waiting, ty_waiting, opq⟩
  have T_C1_C1_request : SupTo K C1 C1 "request" f_request := ⟨Option.isSome_iff_exists.mp ic_C1, Option.isSome_iff_exists.mp ic_C1, mro_C1_C1, u_C1_C1_request, fn_request, ty_request, opq⟩
  have T_C2_C1_request : SupTo K C2 C1 "request" f_request := ⟨Option.isSome_iff_exists.mp ic_C2, Option.isSome_iff_exists.mp ic_C1, mro_C2_C1, u_C2_C1_request, fn_request, ty_request, opq⟩
  have T_C1_C1_release : SupTo K C1 C1 "release" f_release := ⟨Option.isSome_iff_exists.mp ic_C1, Option.isSome_iff_exists.mp ic_C1, mro_C1_C1, u_C1_C1_release, fn_release, ty_release, opq⟩
  have T_C2_C1_release : SupTo K C2 C1 "release" f_release := ⟨Option.isSome_iff_exists.mp ic_C2, Option.isSome_iff_exists.mp ic_C1, mro_C2_C1, u_C2_C1_release, fn_release, ty_release, opq⟩
  have T_C2_C2_holders : SupTo K C2 C2 "holders" f_Rholders := ⟨Option.isSome_iff_exists.mp ic_C2, Option.isSome_iff_exists.mp ic_C2, mro_C2_C2, u_C2_C2_holders, fn_Rholders, ty_Rholders, opq⟩
  have T_C2_C2_waiting : SupTo K C2 C2 "waiting" f_Rwaiting := ⟨Option.isSome_iff_exists.mp ic_C2, Option.isSome_iff_exists.mp ic_C2, mro_C2_C2, u_C2_C2_waiting, fn_Rwaiting, ty_Rwaiting, opq⟩
  have T_C2_C2_request : SupTo K C2 C2 "request" f_Rrequest := ⟨Option.isSome_iff_exists.mp ic_C2, Option.isSome_iff_exists.mp ic_C2, mro_C2_C2, u_C2_C2_request, fn_Rrequest, ty_Rrequest, opq⟩
  have T_C2_C2_release : SupTo K C2 C2 "release" f_Rrelease := ⟨Option.isSome_iff_exists.mp ic_C2, Option.isSome_iff_exists.mp ic_C2, mro_C2_C2, u_C2_C2_release, fn_Rrelease, ty_Rrelease, opq⟩
  have T : Txt K mg := ⟨PySem.W.mg_none_of X G z_isinstance, PySem.W.mg_none_of X G z_int, PySem.W.mg_none_of X G z_bool, PySem.W.mg_none_of X G z_len, PySem.W.mg_none_of X G z_tuple, PySem.W.mg_none_of X G z_enumerate, PySem.W.mg_none_of X G z_max, PySem.W.mg_none_of X G z_repr, PySem.W.mg_none_of X G z_sorted, PySem.W.mg_none_of X G z_range, PySem.W.mg_none_of X G z_super, ⟨_, PySem.W.mg_of X G v_LAST_PROCESS⟩, ⟨_, PySem.W.mg_of X G v_LAST_RANK⟩⟩
  have XF_HoldError : XcF K mg "HoldError" XH := ⟨x_XH, PySem.W.mg_of X G a_XH, k_XH, b_XH, t_XH, exm_own b_XH i_XH t_XH s_XH⟩
  have Lc_C0 : Cls K C0 := ⟨pg_C0, hd_C0, po_C0, sa_C0⟩
  have Lc_C1 : Cls K C1 := ⟨pg_C1, hd_C1, po_C1, sa_C1⟩
  have Lc_C2 : Cls K C2 := ⟨pg_C2, hd_C2, po_C2, sa_C2⟩
  refine ⟨PySem.W.fnOf "law" "law" (defArgs s_law) (defBody s_law) (defScope s_law) .none kV_law dc_law pm_law an_law cd_law ct_law, fun s v => .of_eq rfl, fun base hbi hbn => ?_⟩
  have G_is_between : GF l.prog w K mg base "is_between" 1 _ _ _ d_is_between := ⟨ok_is_between F_is_between T, B_is_between, PySem.W.mg_of X G a_is_between, k_is_between⟩
  have G_check_number : GF l.prog w K mg base "check_number" 2 _ _ _ d_check_number := ⟨ok_check_number F_check_number T G_is_between, B_check_number, PySem.W.mg_of X G a_check_number, k_check_number⟩
  have G_check_process : GF l.prog w K mg base "_check_process" 3 _ _ _ d_check_process := ⟨ok_check_process F_check_process T G_check_number, B_check_process, PySem.W.mg_of X G a_check_process, k_check_process⟩
  have G_check_rank : GF l.prog w K mg base "_check_rank" 3 _ _ _ d_check_rank := ⟨ok_check_rank F_check_rank T G_check_number, B_check_rank, PySem.W.mg_of X G a_check_rank, k_check_rank⟩
  have G_check_victims : GF l.prog w K mg base "_check_victims" 4 _ _ _ d_check_victims := ⟨ok_check_victims F_check_victims T G_check_process, B_check_victims, PySem.W.mg_of X G a_check_victims, k_check_victims⟩
  have L0 : Lin K C0 := ⟨Lc_C0, n_C0_units, n_C0_requests, ⟨_, v_C0MOST_UNITS, ⟨_, rfl⟩, w_C0MOST_UNITS, by decide +kernel⟩⟩
  have M0_holders : MF l.prog w K mg base C0 "holders" 3 _ _ _ (d_holders C0) := ⟨(ok_holders F_holders T L0).mono (by decide), B_holders, Lc_C0, ⟨a_C0_holders, i_holders, k_holders⟩⟩
  have P0_free : PF l.prog w K mg base C0 "free" 4 _ _ _ _ (d_free C0) := ⟨ok_free F_free T L0 M0_holders, B_free, Lc_C0, ⟨a_C0_free, g_free, t_free, ⟨_, r_freeF⟩⟩⟩
  have M0_served : MF l.prog w K mg base C0 "_served" 2 _ _ _ (d_served C0 sv0) := ⟨(ok_served F_served T L0).mono (by decide), B_served, Lc_C0, ⟨a_C0_served, i_served, k_served⟩⟩
  have M0_waiting : MF l.prog w K mg base C0 "waiting" 5 _ _ _ (d_waiting C0 sv0) := ⟨(ok_waiting F_waiting T sv_sv0 L0 M0_served).mono (by decide), B_waiting, Lc_C0, ⟨a_C0_waiting, i_waiting, k_waiting⟩⟩
  have P0_length : PF l.prog w K mg base C0 "length" 6 _ _ _ _ (d_length C0 sv0) := ⟨ok_length F_length T sv_sv0 L0 M0_waiting, B_length, Lc_C0, ⟨a_C0_length, g_length, t_length, ⟨_, r_lengthF⟩⟩⟩
  have M0_request : MF l.prog w K mg base C0 "request" 8 _ _ _ (d_request C0) := ⟨(ok_request F_request T L0 G_check_process G_check_rank P0_free).mono (by decide), B_request, Lc_C0, ⟨a_C0_request, i_request, k_request⟩⟩
  have M0_release : MF l.prog w K mg base C0 "release" 6 _ _ _ (d_release C0 XH sv0) := ⟨(ok_release F_release T sv_sv0 L0 G_check_process M0_served XF_HoldError).mono (by decide), B_release, Lc_C0, ⟨a_C0_release, i_release, k_release⟩⟩
  have N0 : NF l.prog w K mg base "Line" C0 3 _ _ _ (d_init C0) := ⟨ok_init F_init T L0 G_check_number, B_init, PySem.W.mg_of X G a_C0, ⟨mk_C0, a_C0_init, i_init, kc_C0⟩⟩
  have L1 : Lin K C1 := ⟨Lc_C1, n_C1_units, n_C1_requests, ⟨_, v_C1MOST_UNITS, ⟨_, rfl⟩, w_C1MOST_UNITS, by decide +kernel⟩⟩
  have U1_holders := UF.mk (ok_holders (P := l.prog) (w := w) (base := base) F_holders T L1) B_holders T_C1_C1_holders
  have R1_holders := ok_Rholders (P := l.prog) (w := w) (base := base) F_Rholders T U1_holders
  have M1_holders : MF l.prog w K mg base C1 "holders" 3 _ _ _ (d_holders C1) := ⟨R1_holders.mono (by decide), B_Rholders, Lc_C1, ⟨a_C1_holders, i_Rholders, k_Rholders⟩⟩
  have P1_free : PF l.prog w K mg base C1 "free" 4 _ _ _ _ (d_free C1) := ⟨ok_Rfree F_Rfree T L1 M1_holders, B_Rfree, Lc_C1, ⟨a_C1_free, g_Rfree, t_Rfree, ⟨_, r_RfreeF⟩⟩⟩
  have U1_served := UF.mk (ok_served (P := l.prog) (w := w) (base := base) F_served T L1) B_served T_C1_C1_served
  have M1_served : MF l.prog w K mg base C1 "_served" 2 _ _ _ (d_served C1 (svR 1)) := ⟨ok_Rserved F_Rserved T L1 U1_served, B_Rserved, Lc_C1, ⟨a_C1_served, i_Rserved, k_Rserved⟩⟩
  have U1_waiting := UF.mk (ok_waiting (P := l.prog) (w := w) (base := base) F_waiting T (sv_svR 1) L1 M1_served) B_waiting T_C1_C1_waiting
  have R1_waiting := ok_Rwaiting (P := l.prog) (w := w) (base := base) F_Rwaiting T U1_waiting
  have M1_waiting : MF l.prog w K mg base C1 "waiting" 5 _ _ _ (d_waiting C1 (svR 1)) := ⟨R1_waiting.mono (by decide), B_Rwaiting, Lc_C1, ⟨a_C1_waiting, i_Rwaiting, k_Rwaiting⟩⟩
  have P1_length : PF l.prog w K mg base C1 "length" 6 _ _ _ _ (d_length C1 (svR 1)) := ⟨ok_Rlength F_Rlength T (sv_svR 1) L1 M1_waiting, B_Rlength, Lc_C1, ⟨a_C1_length, g_Rlength, t_Rlength, ⟨_, r_RlengthF⟩⟩⟩
  have U1_request := UF.mk (ok_request (P := l.prog) (w := w) (base := base) F_request T L1 G_check_process G_check_rank P1_free) B_request T_C1_C1_request
  have R1_request := ok_Rrequest (P := l.prog) (w := w) (base := base) F_Rrequest T U1_request
  have M1_request : MF l.prog w K mg base C1 "request" 8 _ _ _ (d_request C1) := ⟨R1_request.mono (by decide), B_Rrequest, Lc_C1, ⟨a_C1_request, i_Rrequest, k_Rrequest⟩⟩
  have U1_release := UF.mk (ok_release (P := l.prog) (w := w) (base := base) F_release T (sv_svR 1) L1 G_check_process M1_served XF_HoldError) B_release T_C1_C1_release
  have R1_release := ok_Rrelease (P := l.prog) (w := w) (base := base) F_Rrelease T U1_release
  have M1_release : MF l.prog w K mg base C1 "release" 6 _ _ _ (d_release C1 XH (svR 1)) := ⟨R1_release.mono (by decide), B_Rrelease, Lc_C1, ⟨a_C1_release, i_Rrelease, k_Rrelease⟩⟩
  have N1 : NF l.prog w K mg base "RankLine" C1 3 _ _ _ (d_init C1) := ⟨ok_init F_init T L1 G_check_number, B_init, PySem.W.mg_of X G a_C1, ⟨mk_C1, a_C1_init, i_init, kc_C1⟩⟩
  have L2 : Lin K C2 := ⟨Lc_C2, n_C2_units, n_C2_requests, ⟨_, v_C2MOST_UNITS, ⟨_, rfl⟩, w_C2MOST_UNITS, by decide +kernel⟩⟩
  have U2_holders := UF.mk (ok_holders (P := l.prog) (w := w) (base := base) F_holders T L2) B_holders T_C2_C1_holders
  have R2_holders := ok_Rholders (P := l.prog) (w := w) (base := base) F_Rholders T U2_holders
  have V2_holders := UF.mk R2_holders B_Rholders T_C2_C2_holders
  have M2_holders : MF l.prog w K mg base C2 "holders" 3 _ _ _ (d_holders C2) := ⟨(ok_Pholders F_Pholders T V2_holders).mono (by decide), B_Pholders, Lc_C2, ⟨a_C2_holders, i_Pholders, k_Pholders⟩⟩
  have P2_free : PF l.prog w K mg base C2 "free" 4 _ _ _ _ (d_free C2) := ⟨ok_Pfree F_Pfree T L2 M2_holders, B_Pfree, Lc_C2, ⟨a_C2_free, g_Pfree, t_Pfree, ⟨_, r_PfreeF⟩⟩⟩
  have U2_served := UF.mk (ok_served (P := l.prog) (w := w) (base := base) F_served T L2) B_served T_C2_C1_served
  have M2_served : MF l.prog w K mg base C2 "_served" 2 _ _ _ (d_served C2 (svR 1)) := ⟨ok_Rserved F_Rserved T L2 U2_served, B_Rserved, Lc_C2, ⟨a_C2_served, i_Rserved, k_Rserved⟩⟩
  have U2_waiting := UF.mk (ok_waiting (P := l.prog) (w := w) (base := base) F_waiting T (sv_svR 1) L2 M2_served) B_waiting T_C2_C1_waiting
  have R2_waiting := ok_Rwaiting (P := l.prog) (w := w) (base := base) F_Rwaiting T U2_waiting
  have V2_waiting := UF.mk R2_waiting B_Rwaiting T_C2_C2_waiting
  have M2_waiting : MF l.prog w K mg base C2 "waiting" 5 _ _ _ (d_waiting C2 (svR 1)) := ⟨(ok_Pwaiting F_Pwaiting T V2_waiting).mono (by decide), B_Pwaiting, Lc_C2, ⟨a_C2_waiting, i_Pwaiting, k_Pwaiting⟩⟩
  have P2_length : PF l.prog w K mg base C2 "length" 6 _ _ _ _ (d_length C2 (svR 1)) := ⟨ok_Plength F_Plength T (sv_svR 1) L2 M2_waiting, B_Plength, Lc_C2, ⟨a_C2_length, g_Plength, t_Plength, ⟨_, r_PlengthF⟩⟩⟩
  have U2_request := UF.mk (ok_request (P := l.prog) (w := w) (base := base) F_request T L2 G_check_process G_check_rank P2_free) B_request T_C2_C1_request
  have R2_request := ok_Rrequest (P := l.prog) (w := w) (base := base) F_Rrequest T U2_request
  have V2_request := UF.mk R2_request B_Rrequest T_C2_C2_request
  have M2_request : MF l.prog w K mg base C2 "request" 8 _ _ _ (d_request C2) := ⟨(ok_Prequest F_Prequest T V2_request).mono (by decide), B_Prequest, Lc_C2, ⟨a_C2_request, i_Prequest, k_Prequest⟩⟩
  have U2_release := UF.mk (ok_release (P := l.prog) (w := w) (base := base) F_release T (sv_svR 1) L2 G_check_process M2_served XF_HoldError) B_release T_C2_C1_release
  have R2_release := ok_Rrelease (P := l.prog) (w := w) (base := base) F_Rrelease T U2_release
  have V2_release := UF.mk R2_release B_Rrelease T_C2_C2_release
  have M2_release : MF l.prog w K mg base C2 "release" 6 _ _ _ (d_release C2 XH (svR 1)) := ⟨(ok_Prelease F_Prelease T V2_release).mono (by decide), B_Prelease, Lc_C2, ⟨a_C2_release, i_Prelease, k_Prelease⟩⟩
  have M2_victim : MF l.prog w K mg base C2 "_victim" 1 _ _ _ (d_Pvictim C2) := ⟨ok_Pvictim F_Pvictim T L2, B_Pvictim, Lc_C2, ⟨a_C2_victim, i_Pvictim, k_Pvictim⟩⟩
  have M2_preempt : MF l.prog w K mg base C2 "preempt" 6 _ _ _ (d_Ppreempt C2) := ⟨ok_Ppreempt F_Ppreempt T L2 G_check_process G_check_rank G_check_victims P2_free M2_victim, B_Ppreempt, Lc_C2, ⟨a_C2_preempt, i_Ppreempt, k_Ppreempt⟩⟩
  have N2 : NF l.prog w K mg base "PreemptLine" C2 3 _ _ _ (d_init C2) := ⟨ok_init F_init T L2 G_check_number, B_init, PySem.W.mg_of X G a_C2, ⟨mk_C2, a_C2_init, i_init, kc_C2⟩⟩
  have G_law_cell_at : GF l.prog w K mg base "_law_cell_at" 1 _ _ _ d_law_cell_at := ⟨ok_law_cell_at F_law_cell_at T, B_law_cell_at, PySem.W.mg_of X G a_law_cell_at, k_law_cell_at⟩
  have G_law_same : GF l.prog w K mg base "_law_same" 1 _ _ _ d_law_same := ⟨ok_law_same F_law_same T, B_law_same, PySem.W.mg_of X G a_law_same, k_law_same⟩
  have R0_repr : MF l.prog w K mg base C0 "__repr__" 8 _ _ _ (d_repr C0 sv0 "Line(") := ⟨ok_repr F_repr T L0 P0_length, B_repr, Lc_C0, ⟨a_C0_repr, i_repr, k_repr⟩⟩
  have R2_repr : MF l.prog w K mg base C2 "__repr__" 8 _ _ _ (d_repr C2 (svR 1) "PreemptLine(") := ⟨ok_Prepr F_Prepr T L2 P2_length, B_Prepr, Lc_C2, ⟨a_C2_repr, i_Prepr, k_Prepr⟩⟩
  have KW1 : KwB _ ["self", "units"] ["units"] 1 [0, 1] := Dl.Fun.kwb F_init (ps := ["self", "units"]) (ks := ["units"]) (n := 1) (ix := [0, 1]) (fun _ _ _ _ _ _ us ws h1 h2 => match us, ws, h1, h2 with | [_], [_], _, _ => rfl) (fun us ws h1 h2 => match us, ws, h1, h2 with | [_], [_], _, _ => rfl)
  have KW2 : KwB _ ["self", "process", "rank"] ["process", "rank"] 1 [0, 1, 2] := F_Prequest.kwb (ps := ["self", "process", "rank"]) (ks := ["process", "rank"]) (n := 1) (ix := [0, 1, 2]) (fun _ _ _ _ _ us ws h1 h2 => match us, ws, h1, h2 with | [_], [_, _], _, _ => rfl) (fun us ws h1 h2 => match us, ws, h1, h2 with | [_], [_, _], _, _ => rfl)
  have KW3 : KwB _ ["self", "process", "rank"] ["rank", "process"] 1 [0, 2, 1] := F_Prequest.kwb (ps := ["self", "process", "rank"]) (ks := ["rank", "process"]) (n := 1) (ix := [0, 2, 1]) (fun _ _ _ _ _ us ws h1 h2 => match us, ws, h1, h2 with | [_], [_, _], _, _ => rfl) (fun us ws h1 h2 => match us, ws, h1, h2 with | [_], [_, _], _, _ => rfl)
  have KW4 : KwB _ ["self", "process", "rank", "victims"] ["victims", "rank"] 2 [0, 1, 3, 2] := Dl.Fun.kwb F_Ppreempt (ps := ["self", "process", "rank", "victims"]) (ks := ["victims", "rank"]) (n := 2) (ix := [0, 1, 3, 2]) (fun _ _ _ _ _ _ us ws h1 h2 => match us, ws, h1, h2 with | [_, _], [_, _], _, _ => rfl) (fun us ws h1 h2 => match us, ws, h1, h2 with | [_, _], [_, _], _, _ => rfl)
  have KW5 : KwB _ ["self", "process"] ["process"] 1 [0, 1] := F_Prelease.kwb (ps := ["self", "process"]) (ks := ["process"]) (n := 1) (ix := [0, 1]) (fun _ _ _ _ _ us ws h1 h2 => match us, ws, h1, h2 with | [_], [_], _, _ => rfl) (fun us ws h1 h2 => match us, ws, h1, h2 with | [_], [_], _, _ => rfl)
  have G_law_released1 : GF l.prog w K mg base "_law_released" 8 _ _ _ (d_law_released C1 (svR 1)) := ⟨(ok_law_released F_law_released T L1 M1_release XF_HoldError).mono (by decide), B_law_released, PySem.W.mg_of X G a_law_released, k_law_released⟩
  have G_law_released2 : GF l.prog w K mg base "_law_released" 8 _ _ _ (d_law_released C2 (svR 1)) := ⟨(ok_law_released F_law_released T L2 M2_release XF_HoldError).mono (by decide), B_law_released, PySem.W.mg_of X G a_law_released, k_law_released⟩
  have G_law_first_case : GF l.prog w K mg base "_law_first_case" 10 _ _ _ d_case := ⟨ok_law_first_case F_law_first_case T N2 M2_request M2_preempt M2_release M2_holders M2_waiting P2_free P2_length R2_repr G_law_same KW1 KW2 KW3 KW4 KW5, B_law_first_case, PySem.W.mg_of X G a_law_first_case, k_law_first_case⟩
  have G_law_second_case : GF l.prog w K mg base "_law_second_case" 10 _ _ _ d_case := ⟨ok_law_second_case F_law_second_case T N1 M1_request M1_release M1_holders M1_waiting P1_free P1_length G_law_released1 G_law_same, B_law_second_case, PySem.W.mg_of X G a_law_second_case, k_law_second_case⟩
  have G_law_third_case : GF l.prog w K mg base "_law_third_case" 10 _ _ _ d_case := ⟨ok_law_third_case F_law_third_case T N0 M0_request M0_release M0_holders M0_waiting R0_repr G_law_same, B_law_third_case, PySem.W.mg_of X G a_law_third_case, k_law_third_case⟩
  have G_law_fourth_case : GF l.prog w K mg base "_law_fourth_case" 10 _ _ _ d_case := ⟨ok_law_fourth_case F_law_fourth_case T N2 M2_request M2_preempt M2_release M2_holders M2_waiting G_law_same, B_law_fourth_case, PySem.W.mg_of X G a_law_fourth_case, k_law_fourth_case⟩
  have G_law_fifth_case : GF l.prog w K mg base "_law_fifth_case" 10 _ _ _ d_case := ⟨ok_law_fifth_case (XH := XH) F_law_fifth_case T N2 M2_request M2_preempt M2_holders M2_waiting P2_free G_law_released2 G_law_same, B_law_fifth_case, PySem.W.mg_of X G a_law_fifth_case, k_law_fifth_case⟩
  exact ok_law F_law T G_law_cell_at G_law_first_case G_law_second_case G_law_third_case G_law_fourth_case G_law_fifth_case
end Dl
open PySem PySem.W PyProof.Rows
set_option maxRecDepth 100000 in
set_option maxHeartbeats 0 in
theorem PySem.Challenge.cw_eventsim_k19_lines_by_hand_and_names_holds : PySem.Challenge.rw_eventsim_k19_lines_by_hand_and_names.Holds := by
  w_on; o_law; k_head; (case hw => w_witness2)
  k_fill
  refine Dl.walk_d (l := PySem.Challenge.rw_eventsim_k19_lines_by_hand_and_names) (k := 11) (x := "_law_script") rfl rfl ⟨rfl, by decide, by decide⟩ (fun w h Y => PySem.W.kIn_of Y) ?F
  case F =>
    intro w mg fa h KX G hmg
    refine' Dl.all_mk KX G hmg ?a_C0 ?pg_C0 ?hd_C0 ?po_C0 ?sa_C0 ?mk_C0 ?kc_C0 ?ic_C0 ?n_C0_units ?n_C0_requests ?v_C0MOST_UNITS ?w_C0MOST_UNITS ?a_C1 ?pg_C1 ?hd_C1 ?po_C1 ?sa_C1 ?mk_C1 ?kc_C1 ?ic_C1 ?n_C1_units ?n_C1_requests ?v_C1MOST_UNITS ?w_C1MOST_UNITS ?a_C2 ?pg_C2 ?hd_C2 ?po_C2 ?sa_C2 ?mk_C2 ?kc_C2 ?ic_C2 ?n_C2_units ?n_C2_requests ?v_C2MOST_UNITS ?w_C2MOST_UNITS ?a_XH ?x_XH ?k_XH ?b_XH ?t_XH ?i_XH ?s_XH ?v_LAST_PROCESS ?v_LAST_RANK ?z_isinstance ?z_int ?z_bool ?z_len ?z_tuple ?z_enumerate ?z_max ?z_repr ?z_sorted ?z_range ?z_super ?a_is_between ?l_is_between ?c_is_between ?k_is_between ?a_check_number ?l_check_number ?c_check_number ?k_check_number ?a_check_process ?l_check_process ?c_check_process ?k_check_process ?a_check_rank ?l_check_rank ?c_check_rank ?k_check_rank ?a_check_victims ?l_check_victims ?c_check_victims ?k_check_victims ?a_C0_init ?a_C1_init ?a_C2_init ?l_init ?c_init ?i_init ?k_init ?a_C0_holders ?l_holders ?c_holders ?i_holders ?k_holders ?a_C0_free ?g_free ?t_free ?r_freeF ?l_free ?c_free ?i_free ?k_free ?a_C0_served ?l_served ?c_served ?i_served ?k_served ?a_C0_waiting ?l_waiting ?c_waiting ?i_waiting ?k_waiting ?a_C0_length ?g_length ?t_length ?r_lengthF ?l_length ?c_length ?i_length ?k_length ?a_C0_repr ?l_repr ?c_repr ?i_repr ?k_repr ?a_C0_request ?l_request ?c_request ?i_request ?k_request ?a_C0_release ?l_release ?c_release ?i_release ?k_release ?a_C1_holders ?l_Rholders ?c_Rholders ?m_Rholders ?u_Rholders ?w_Rholders ?x_Rholders ?i_Rholders ?k_Rholders ?a_C1_free ?g_Rfree ?t_Rfree ?r_RfreeF ?l_Rfree ?c_Rfree ?i_Rfree ?k_Rfree ?a_C1_served ?a_C2_served ?l_Rserved ?c_Rserved ?m_Rserved ?u_Rserved ?w_Rserved ?x_Rserved ?i_Rserved ?k_Rserved ?a_C1_waiting ?l_Rwaiting ?c_Rwaiting ?m_Rwaiting ?u_Rwaiting ?w_Rwaiting ?x_Rwaiting ?i_Rwaiting ?k_Rwaiting ?a_C1_length ?g_Rlength ?t_Rlength ?r_RlengthF ?l_Rlength ?c_Rlength ?i_Rlength ?k_Rlength ?a_C1_request ?l_Rrequest ?c_Rrequest ?m_Rrequest ?u_Rrequest ?w_Rrequest ?x_Rrequest ?i_Rrequest ?k_Rrequest ?a_C1_release ?l_Rrelease ?c_Rrelease ?m_Rrelease ?u_Rrelease ?w_Rrelease ?x_Rrelease ?i_Rrelease ?k_Rrelease ?a_C2_holders ?l_Pholders ?c_Pholders ?m_Pholders ?u_Pholders ?w_Pholders ?x_Pholders ?i_Pholders ?k_Pholders ?a_C2_free ?g_Pfree ?t_Pfree ?r_PfreeF ?l_Pfree ?c_Pfree ?i_Pfree ?k_Pfree ?a_C2_waiting ?l_Pwaiting ?c_Pwaiting ?m_Pwaiting ?u_Pwaiting ?w_Pwaiting ?x_Pwaiting ?i_Pwaiting ?k_Pwaiting ?a_C2_length ?g_Plength ?t_Plength ?r_PlengthF ?l_Plength ?c_Plength ?i_Plength ?k_Plength ?a_C2_repr ?l_Prepr ?c_Prepr ?i_Prepr ?k_Prepr ?a_C2_request ?l_Prequest ?c_Prequest ?m_Prequest ?u_Prequest ?w_Prequest ?x_Prequest ?i_Prequest ?k_Prequest ?a_C2_release ?l_Prelease ?c_Prelease ?m_Prelease ?u_Prelease ?w_Prelease ?x_Prelease ?i_Prelease ?k_Prelease ?a_C2_victim ?l_Pvictim ?c_Pvictim ?i_Pvictim ?k_Pvictim ?a_C2_preempt ?l_Ppreempt ?c_Ppreempt ?i_Ppreempt ?k_Ppreempt ?a_law_cell_at ?l_law_cell_at ?c_law_cell_at ?k_law_cell_at ?a_law_same ?l_law_same ?c_law_same ?k_law_same ?a_law_released ?l_law_released ?c_law_released ?k_law_released ?a_law_first_case ?l_law_first_case ?c_law_first_case ?k_law_first_case ?a_law_second_case ?l_law_second_case ?c_law_second_case ?k_law_second_case ?a_law_third_case ?l_law_third_case ?c_law_third_case ?k_law_third_case ?a_law_fourth_case ?l_law_fourth_case ?c_law_fourth_case ?k_law_fourth_case ?a_law_fifth_case ?l_law_fifth_case ?c_law_fifth_case ?k_law_fifth_case ?a_law ?l_law ?c_law ?k_law ?u_C1_C1_holders ?mro_C1_C1 ?fn_holders ?ty_holders ?u_C2_C1_holders ?mro_C2_C1 ?u_C1_C1_served ?fn_served ?ty_served ?u_C2_C1_served ?u_C1_C1_waiting ?fn_waiting ?ty_waiting ?u_C2_C1_waiting ?u_C1_C1_request ?fn_request ?ty_request ?u_C2_C1_request ?u_C1_C1_release ?fn_release ?ty_release ?u_C2_C1_release ?u_C2_C2_holders ?mro_C2_C2 ?fn_Rholders ?ty_Rholders ?u_C2_C2_waiting ?fn_Rwaiting ?ty_Rwaiting ?u_C2_C2_request ?fn_Rrequest ?ty_Rrequest ?u_C2_C2_release ?fn_Rrelease ?ty_Rrelease ?nosup ?opq
    (case a_C0 => k_is)
    (case pg_C0 => k_is)
    (case hd_C0 => k_is)
    (case po_C0 => k_is)
    (case sa_C0 => k_is)
    (case mk_C0 => k_is)
    (case kc_C0 => k_is)
    (case ic_C0 => k_is)
    (case n_C0_units => k_is)
    (case n_C0_requests => k_is)
    (case v_C0MOST_UNITS => k_is)
    (case w_C0MOST_UNITS => k_is)
    (case a_C1 => k_is)
    (case pg_C1 => k_is)
    (case hd_C1 => k_is)
    (case po_C1 => k_is)
    (case sa_C1 => k_is)
    (case mk_C1 => k_is)
    (case kc_C1 => k_is)
    (case ic_C1 => k_is)
    (case n_C1_units => k_is)
    (case n_C1_requests => k_is)
    (case v_C1MOST_UNITS => k_is)
    (case w_C1MOST_UNITS => k_is)
    (case a_C2 => k_is)
    (case pg_C2 => k_is)
    (case hd_C2 => k_is)
    (case po_C2 => k_is)
    (case sa_C2 => k_is)
    (case mk_C2 => k_is)
    (case kc_C2 => k_is)
    (case ic_C2 => k_is)
    (case n_C2_units => k_is)
    (case n_C2_requests => k_is)
    (case v_C2MOST_UNITS => k_is)
    (case w_C2MOST_UNITS => k_is)
    (case a_XH => k_is)
    (case x_XH => k_exc)
    (case k_XH => k_is)
    (case b_XH => k_is)
    (case t_XH => k_is)
    (case i_XH => k_is)
    (case s_XH => (first | rfl | k_is))
    (case v_LAST_PROCESS => k_is)
    (case v_LAST_RANK => k_is)
    (case z_isinstance => k_is)
    (case z_int => k_is)
    (case z_bool => k_is)
    (case z_len => k_is)
    (case z_tuple => k_is)
    (case z_enumerate => k_is)
    (case z_max => k_is)
    (case z_repr => k_is)
    (case z_sorted => k_is)
    (case z_range => k_is)
    (case z_super => k_is)
    (case a_is_between => k_is)
    (case l_is_between => k_is)
    (case c_is_between => k_is)
    (case k_is_between => k_is)
    (case a_check_number => k_is)
    (case l_check_number => k_is)
    (case c_check_number => k_is)
    (case k_check_number => k_is)
    (case a_check_process => k_is)
    (case l_check_process => k_is)
    (case c_check_process => k_is)
    (case k_check_process => k_is)
    (case a_check_rank => k_is)
    (case l_check_rank => k_is)
    (case c_check_rank => k_is)
    (case k_check_rank => k_is)
    (case a_check_victims => k_is)
    (case l_check_victims => k_is)
    (case c_check_victims => k_is)
    (case k_check_victims => k_is)
    (case a_C0_init => k_is)
    (case a_C1_init => k_is)
    (case a_C2_init => k_is)
    (case l_init => k_is)
    (case c_init => k_is)
    (case i_init => k_is)
    (case k_init => k_is)
    (case a_C0_holders => k_is)
    (case l_holders => k_is)
    (case c_holders => k_is)
    (case i_holders => k_is)
    (case k_holders => k_is)
    (case a_C0_free => k_is)
    (case g_free => k_is)
    (case t_free => k_is)
    (case r_freeF => k_is)
    (case l_free => k_is)
    (case c_free => k_is)
    (case i_free => k_is)
    (case k_free => k_is)
    (case a_C0_served => k_is)
    (case l_served => k_is)
    (case c_served => k_is)
    (case i_served => k_is)
    (case k_served => k_is)
    (case a_C0_waiting => k_is)
    (case l_waiting => k_is)
    (case c_waiting => k_is)
    (case i_waiting => k_is)
    (case k_waiting => k_is)
    (case a_C0_length => k_is)
    (case g_length => k_is)
    (case t_length => k_is)
    (case r_lengthF => k_is)
    (case l_length => k_is)
    (case c_length => k_is)
    (case i_length => k_is)
    (case k_length => k_is)
    (case a_C0_repr => k_is)
    (case l_repr => k_is)
    (case c_repr => k_is)
    (case i_repr => k_is)
    (case k_repr => k_is)
    (case a_C0_request => k_is)
    (case l_request => k_is)
    (case c_request => k_is)
    (case i_request => k_is)
    (case k_request => k_is)
    (case a_C0_release => k_is)
    (case l_release => k_is)
    (case c_release => k_is)
    (case i_release => k_is)
    (case k_release => k_is)
    (case a_C1_holders => k_is)
    (case l_Rholders => k_is)
    (case c_Rholders => k_is)
    (case m_Rholders => k_is)
    (case u_Rholders => (first | rfl | k_is))
    (case w_Rholders => (first | rfl | decide | k_is))
    (case x_Rholders => k_is)
    (case i_Rholders => k_is)
    (case k_Rholders => k_is)
    (case a_C1_free => k_is)
    (case g_Rfree => k_is)
    (case t_Rfree => k_is)
    (case r_RfreeF => k_is)
    (case l_Rfree => k_is)
    (case c_Rfree => k_is)
    (case i_Rfree => k_is)
    (case k_Rfree => k_is)
    (case a_C1_served => k_is)
    (case a_C2_served => k_is)
    (case l_Rserved => k_is)
    (case c_Rserved => k_is)
    (case m_Rserved => k_is)
    (case u_Rserved => (first | rfl | k_is))
    (case w_Rserved => (first | rfl | decide | k_is))
    (case x_Rserved => k_is)
    (case i_Rserved => k_is)
    (case k_Rserved => k_is)
    (case a_C1_waiting => k_is)
    (case l_Rwaiting => k_is)
    (case c_Rwaiting => k_is)
    (case m_Rwaiting => k_is)
    (case u_Rwaiting => (first | rfl | k_is))
    (case w_Rwaiting => (first | rfl | decide | k_is))
    (case x_Rwaiting => k_is)
    (case i_Rwaiting => k_is)
    (case k_Rwaiting => k_is)
    (case a_C1_length => k_is)
    (case g_Rlength => k_is)
    (case t_Rlength => k_is)
    (case r_RlengthF => k_is)
    (case l_Rlength => k_is)
    (case c_Rlength => k_is)
    (case i_Rlength => k_is)
    (case k_Rlength => k_is)
    (case a_C1_request => k_is)
    (case l_Rrequest => k_is)
    (case c_Rrequest => k_is)
    (case m_Rrequest => k_is)
    (case u_Rrequest => (first | rfl | k_is))
    (case w_Rrequest => (first | rfl | decide | k_is))
    (case x_Rrequest => k_is)
    (case i_Rrequest => k_is)
    (case k_Rrequest => k_is)
    (case a_C1_release => k_is)
    (case l_Rrelease => k_is)
    (case c_Rrelease => k_is)
    (case m_Rrelease => k_is)
    (case u_Rrelease => (first | rfl | k_is))
    (case w_Rrelease => (first | rfl | decide | k_is))
    (case x_Rrelease => k_is)
    (case i_Rrelease => k_is)
    (case k_Rrelease => k_is)
    (case a_C2_holders => k_is)
    (case l_Pholders => k_is)
    (case c_Pholders => k_is)
    (case m_Pholders => k_is)
    (case u_Pholders => (first | rfl | k_is))
    (case w_Pholders => (first | rfl | decide | k_is))
    (case x_Pholders => k_is)
    (case i_Pholders => k_is)
    (case k_Pholders => k_is)
    (case a_C2_free => k_is)
    (case g_Pfree => k_is)
    (case t_Pfree => k_is)
    (case r_PfreeF => k_is)
    (case l_Pfree => k_is)
    (case c_Pfree => k_is)
    (case i_Pfree => k_is)
    (case k_Pfree => k_is)
    (case a_C2_waiting => k_is)
    (case l_Pwaiting => k_is)
    (case c_Pwaiting => k_is)
    (case m_Pwaiting => k_is)
    (case u_Pwaiting => (first | rfl | k_is))
    (case w_Pwaiting => (first | rfl | decide | k_is))
    (case x_Pwaiting => k_is)
    (case i_Pwaiting => k_is)
    (case k_Pwaiting => k_is)
    (case a_C2_length => k_is)
    (case g_Plength => k_is)
    (case t_Plength => k_is)
    (case r_PlengthF => k_is)
    (case l_Plength => k_is)
    (case c_Plength => k_is)
    (case i_Plength => k_is)
    (case k_Plength => k_is)
    (case a_C2_repr => k_is)
    (case l_Prepr => k_is)
    (case c_Prepr => k_is)
    (case i_Prepr => k_is)
    (case k_Prepr => k_is)
    (case a_C2_request => k_is)
    (case l_Prequest => k_is)
    (case c_Prequest => k_is)
    (case m_Prequest => k_is)
    (case u_Prequest => (first | rfl | k_is))
    (case w_Prequest => (first | rfl | decide | k_is))
    (case x_Prequest => k_is)
    (case i_Prequest => k_is)
    (case k_Prequest => k_is)
    (case a_C2_release => k_is)
    (case l_Prelease => k_is)
    (case c_Prelease => k_is)
    (case m_Prelease => k_is)
    (case u_Prelease => (first | rfl | k_is))
    (case w_Prelease => (first | rfl | decide | k_is))
    (case x_Prelease => k_is)
    (case i_Prelease => k_is)
    (case k_Prelease => k_is)
    (case a_C2_victim => k_is)
    (case l_Pvictim => k_is)
    (case c_Pvictim => k_is)
    (case i_Pvictim => k_is)
    (case k_Pvictim => k_is)
    (case a_C2_preempt => k_is)
    (case l_Ppreempt => k_is)
    (case c_Ppreempt => k_is)
    (case i_Ppreempt => k_is)
    (case k_Ppreempt => k_is)
    (case a_law_cell_at => k_is)
    (case l_law_cell_at => k_is)
    (case c_law_cell_at => k_is)
    (case k_law_cell_at => k_is)
    (case a_law_same => k_is)
    (case l_law_same => k_is)
    (case c_law_same => k_is)
    (case k_law_same => k_is)
    (case a_law_released => k_is)
    (case l_law_released => k_is)
    (case c_law_released => k_is)
    (case k_law_released => k_is)
    (case a_law_first_case => k_is)
    (case l_law_first_case => k_is)
    (case c_law_first_case => k_is)
    (case k_law_first_case => k_is)
    (case a_law_second_case => k_is)
    (case l_law_second_case => k_is)
    (case c_law_second_case => k_is)
    (case k_law_second_case => k_is)
    (case a_law_third_case => k_is)
    (case l_law_third_case => k_is)
    (case c_law_third_case => k_is)
    (case k_law_third_case => k_is)
    (case a_law_fourth_case => k_is)
    (case l_law_fourth_case => k_is)
    (case c_law_fourth_case => k_is)
    (case k_law_fourth_case => k_is)
    (case a_law_fifth_case => k_is)
    (case l_law_fifth_case => k_is)
    (case c_law_fifth_case => k_is)
    (case k_law_fifth_case => k_is)
    (case a_law => k_is)
    (case l_law => k_is)
    (case c_law => k_is)
    (case k_law => k_is)
    (case u_C1_C1_holders => ks_is)
    (case mro_C1_C1 => k_is)
    (case fn_holders => k_is)
    (case ty_holders => k_is)
    (case u_C2_C1_holders => ks_is)
    (case mro_C2_C1 => k_is)
    (case u_C1_C1_served => ks_is)
    (case fn_served => k_is)
    (case ty_served => k_is)
    (case u_C2_C1_served => ks_is)
    (case u_C1_C1_waiting => ks_is)
    (case fn_waiting => k_is)
    (case ty_waiting => k_is)
    (case u_C2_C1_waiting => ks_is)
    (case u_C1_C1_request => ks_is)
    (case fn_request => k_is)
    (case ty_request => k_is)
    (case u_C2_C1_request => ks_is)
    (case u_C1_C1_release => ks_is)
    (case fn_release => k_is)
    (case ty_release => k_is)
    (case u_C2_C1_release => ks_is)
    (case u_C2_C2_holders => ks_is)
    (case mro_C2_C2 => k_is)
    (case fn_Rholders => k_is)
    (case ty_Rholders => k_is)
    (case u_C2_C2_waiting => ks_is)
    (case fn_Rwaiting => k_is)
    (case ty_Rwaiting => k_is)
    (case u_C2_C2_request => ks_is)
    (case fn_Rrequest => k_is)
    (case ty_Rrequest => k_is)
    (case u_C2_C2_release => ks_is)
    (case fn_Rrelease => k_is)
    (case ty_Rrelease => k_is)
    (case nosup => (first | rfl | decide | k_is))
    (case opq => k_is)
