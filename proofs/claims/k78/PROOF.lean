import PyProof.Rows.All
import Wide.All
import OpenK.AllK
import Wide.FinOn
import HandS.ForMost
import HandS.ForExc
import HandS.Flow
import HandS.Property
import HandS.IsInst
import HandS.SortRule
import HandS.CallSlots
import HandS.Wide
import HandS.Evl
import HandS.Lambda
import HandS.TupAny
import HandS.TupLe
import HandS.Style
import HandS.Conv
import HandS.Zip
import HandS.Small
import HandS.FStr
import HandS.RaiseMore
import HandS.TryOnly
import KE.KSuper
import KE.DataMinMax
import KE.SortData
import KE.DataFind
import HandS.More
import HandS.ClsMeth
import HandS.Deep
import KE.KRevSl
import HandS.TupMul
import KE.GoesMore
import PyProof.EnumMake
import HandS.Star
import PyProof.SeqRoads
import HandS.EndTab
import HandS.HotCalls
import HandS.ExcIs
import HandS.ExcInit
import HandS.ExcField
import KE.KExcSuper
import HandS.TryMany
import KE.KExcIs
import OpenK.KOps
import PyProof.InstNe
import KE.KTypeName
import HandS.Text
import KE.RegKSuper
import PyProof.StrLawsRepr
import PySem.Challenge.RW_eventsim_k78_models_written
set_option Elab.async false
set_option linter.all false
set_option maxRecDepth 100000
set_option maxHeartbeats 4000000
/-! D1: values as deep data, objects that change as a small store; what relates them to the hand layer's heap. -/
namespace Dl
open PySem PySem.Spec PyProof.Rows L2 Evl

/-! ### data and values -/
mutual
inductive Da (K : PySem.W.Frag) (H : Hp) : V → PyData → Prop
  | non : Da K H .non .none
  | bl (b : Bool) : Da K H (.bl b) (.bool b)
  | int (i : Int) : Da K H (.int i) (.int i)
  | str (x : Str) : Da K H (.str x) (.str x)
  | lst {a : Addr} {vs : List V} {ds : List PyData} : Rd H a (.lst vs) → DaAll K H vs ds → Da K H (.ref a) (.list ds)
  | tup {a : Addr} {vs : List V} {ds : List PyData} : SqT K H a vs → DaAll K H vs ds → Da K H (.ref a) (.tuple ds)
  | dic {a : Addr} {kvs : List (Key × V)} {ks ds : List PyData} {es : List (PyData × PyData)} : Rd H a (.dK kvs) →
      DaAll K H (kvs.map fun p => kV p.1) ks → DaAll K H (kvs.map fun p => p.2) ds → es = ks.zip ds → Da K H (.ref a) (.dict es)
inductive DaAll (K : PySem.W.Frag) (H : Hp) : List V → List PyData → Prop
  | nil : DaAll K H [] []
  | cons {v : V} {vs : List V} {d : PyData} {ds : List PyData} : Da K H v d → DaAll K H vs ds → DaAll K H (v :: vs) (d :: ds)
end

section
variable {K : PySem.W.Frag} {H H' : Hp}
mutual
theorem Da.mono (e : Ex H H') : ∀ {v : V} {d : PyData}, Da K H v d → Da K H' v d
  | _, _, .non => .non
  | _, _, .bl b => .bl b
  | _, _, .int i => .int i
  | _, _, .str x => .str x
  | _, _, .lst s h => .lst (ex_rd e s) (DaAll.mono e h)
  | _, _, .tup s h => .tup (ex_t e s) (DaAll.mono e h)
  | _, _, .dic r h1 h2 q => .dic (ex_rd e r) (DaAll.mono e h1) (DaAll.mono e h2) q
theorem DaAll.mono (e : Ex H H') : ∀ {vs : List V} {ds : List PyData}, DaAll K H vs ds → DaAll K H' vs ds
  | _, _, .nil => .nil
  | _, _, .cons h t => .cons (Da.mono e h) (DaAll.mono e t)
end
theorem DaAll.length : ∀ {vs : List V} {ds : List PyData}, DaAll K H vs ds → vs.length = ds.length
  | _, _, .nil => rfl
  | _, _, .cons _ t => congrArg Nat.succ t.length
theorem DaAll.app : ∀ {vs ws : List V} {ds es : List PyData}, DaAll K H vs ds → DaAll K H ws es → DaAll K H (vs ++ ws) (ds ++ es)
  | _, _, _, _, .nil, t => t
  | _, _, _, _, .cons h s, t => .cons h (s.app t)
theorem DaAll.get : ∀ {vs : List V} {ds : List PyData} {i : Nat} {d : PyData}, DaAll K H vs ds → ds[i]? = some d → ∃ v, vs[i]? = some v ∧ Da K H v d
  | _, _, _, _, .nil, e => by simp at e
  | _, _, 0, _, .cons h _, e => by simp at e; subst e; exact ⟨_, rfl, h⟩
  | _, _, i + 1, d, .cons _ t, e => by
    obtain ⟨v, h1, h2⟩ := DaAll.get (i := i) (d := d) t (by simpa using e)
    exact ⟨v, by simpa using h1, h2⟩
theorem DaAll.get' : ∀ {vs : List V} {ds : List PyData} {i : Nat} {v : V}, DaAll K H vs ds → vs[i]? = some v → ∃ d, ds[i]? = some d ∧ Da K H v d
  | _, _, _, _, .nil, e => by simp at e
  | _, _, 0, _, .cons h _, e => by simp at e; subst e; exact ⟨_, rfl, h⟩
  | _, _, i + 1, v, .cons _ t, e => by
    obtain ⟨d, h1, h2⟩ := DaAll.get' (i := i) (v := v) t (by simpa using e)
    exact ⟨d, by simpa using h1, h2⟩
theorem DaAll.take : ∀ {vs : List V} {ds : List PyData} (n : Nat), DaAll K H vs ds → DaAll K H (vs.take n) (ds.take n)
  | _, _, 0, _ => by simp; exact .nil
  | _, _, n + 1, .nil => by simp; exact .nil
  | _, _, n + 1, .cons h t => by simp; exact .cons h (t.take n)
theorem DaAll.drop : ∀ {vs : List V} {ds : List PyData} (n : Nat), DaAll K H vs ds → DaAll K H (vs.drop n) (ds.drop n)
  | _, _, 0, h => by simpa using h
  | _, _, n + 1, .nil => by simp; exact .nil
  | _, _, n + 1, .cons _ t => by simpa using t.drop n
theorem DaAll.rev : ∀ {vs : List V} {ds : List PyData}, DaAll K H vs ds → DaAll K H vs.reverse ds.reverse
  | _, _, .nil => .nil
  | _, _, .cons h t => by
    rw [List.reverse_cons, List.reverse_cons]
    exact t.rev.app (.cons h .nil)
theorem DaAll.ints : ∀ (ns : List Int), DaAll K H (ns.map V.int) (ns.map PyData.int)
  | [] => .nil
  | n :: ns => .cons (.int n) (DaAll.ints ns)
end

/-- a value: data, or the address of an object that may change (or of a def, a class) , or any other -/
inductive Y where
  | d (x : PyData)
  | l (a : Addr)
  | v (x : V)
  /-- a list that is read alone -/
  | r (ds : List PyData)

inductive RV (K : PySem.W.Frag) (G : Hp) : V → Y → Prop
  | d {w : V} {x : PyData} : Da K G w x → RV K G w (.d x)
  | l (a : Addr) : RV K G (.ref a) (.l a)
  | v (x : V) : RV K G x (.v x)
  | r {a : Addr} {vs : List V} {ds : List PyData} : SqL K G a vs → DaAll K G vs ds → RV K G (.ref a) (.r ds)
theorem RV.da {K : PySem.W.Frag} {G : Hp} {w : V} {x : PyData} (h : RV K G w (.d x)) : Da K G w x := by
  cases h; assumption
abbrev RVs (K : PySem.W.Frag) (G : Hp) : List V → List Y → Prop := Paired (RV K G)

section
variable {K : PySem.W.Frag} {G G' : Hp}
theorem RV.mono (e : Ex G G') {w : V} : ∀ {y : Y}, RV K G w y → RV K G' w y
  | _, .d h => .d (Da.mono e h)
  | _, .l a => .l a
  | _, .v x => .v x
  | _, .r s h => .r (ex_l e s) (DaAll.mono e h)
theorem RVs.mono (e : Ex G G') : ∀ {ws : List V} {ys : List Y}, RVs K G ws ys → RVs K G' ws ys
  | _, _, .nil => .nil
  | _, _, .cons h t => .cons (h.mono e) (RVs.mono e t)
theorem RVs.length : ∀ {ws : List V} {ys : List Y}, RVs K G ws ys → ws.length = ys.length
  | _, _, .nil => rfl
  | _, _, .cons _ t => congrArg Nat.succ (RVs.length t)
theorem RVs.app : ∀ {ws ws' : List V} {ys ys' : List Y}, RVs K G ws ys → RVs K G ws' ys' → RVs K G (ws ++ ws') (ys ++ ys')
  | _, _, _, _, .nil, t => t
  | _, _, _, _, .cons h s, t => .cons h (RVs.app s t)
theorem RVs.get : ∀ {ws : List V} {ys : List Y} {i : Nat} {y : Y}, RVs K G ws ys → ys[i]? = some y → ∃ w, ws[i]? = some w ∧ RV K G w y
  | _, _, _, _, .nil, e => by simp at e
  | _, _, 0, _, .cons h _, e => by simp at e; subst e; exact ⟨_, rfl, h⟩
  | _, _, i + 1, y, .cons _ t, e => by
    obtain ⟨v, h1, h2⟩ := RVs.get (i := i) (y := y) t (by simpa using e)
    exact ⟨v, by simpa using h1, h2⟩
theorem RVs.get' : ∀ {ws : List V} {ys : List Y} {i : Nat} {w : V}, RVs K G ws ys → ws[i]? = some w → ∃ y, ys[i]? = some y ∧ RV K G w y
  | _, _, _, _, .nil, e => by simp at e
  | _, _, 0, _, .cons h _, e => by simp at e; subst e; exact ⟨_, rfl, h⟩
  | _, _, i + 1, w, .cons _ t, e => by
    obtain ⟨v, h1, h2⟩ := RVs.get' (i := i) (w := w) t (by simpa using e)
    exact ⟨v, by simpa using h1, h2⟩
theorem RVs.set {w : V} {y : Y} (h : RV K G w y) : ∀ {ws : List V} {ys : List Y} (i : Nat), RVs K G ws ys → RVs K G (ws.set i w) (ys.set i y)
  | _, _, _, .nil => .nil
  | _, _, 0, .cons _ t => .cons h t
  | _, _, i + 1, .cons q t => .cons q (RVs.set h i t)
theorem RVs.eraseIdx : ∀ {ws : List V} {ys : List Y} (i : Nat), RVs K G ws ys → RVs K G (ws.eraseIdx i) (ys.eraseIdx i)
  | _, _, _, .nil => .nil
  | _, _, 0, .cons _ t => t
  | _, _, i + 1, .cons q t => .cons q (RVs.eraseIdx i t)
theorem RVs.take : ∀ {ws : List V} {ys : List Y} (n : Nat), RVs K G ws ys → RVs K G (ws.take n) (ys.take n)
  | _, _, 0, _ => by simp; exact .nil
  | _, _, n + 1, .nil => by simp; exact .nil
  | _, _, n + 1, .cons h t => by simp; exact .cons h (RVs.take n t)
theorem RVs.drop : ∀ {ws : List V} {ys : List Y} (n : Nat), RVs K G ws ys → RVs K G (ws.drop n) (ys.drop n)
  | _, _, 0, h => by simpa using h
  | _, _, n + 1, .nil => by simp; exact .nil
  | _, _, n + 1, .cons _ t => by simpa using RVs.drop n t
theorem DaAll.rvs : ∀ {ws : List V} {ds : List PyData}, DaAll K G ws ds → RVs K G ws (ds.map Y.d)
  | _, _, .nil => .nil
  | _, _, .cons h t => .cons (.d h) t.rvs
theorem RVs.das : ∀ {ws : List V} {ds : List PyData}, RVs K G ws (ds.map Y.d) → DaAll K G ws ds
  | [], [], .nil => .nil
  | _ :: _, _ :: _, .cons h t => .cons h.da (RVs.das t)
end

/-! ### the store of objects that may change -/
inductive MO where
  | lst (ys : List Y)
  | tup (ys : List Y)
  | ins (C dx : Addr) (fs : List (Str × Y))
  | dic (kvs : List (Key × Y))
  /-- a dict that is locked while it is walked: the object, what it holds -/
  | dicF (o : Obj) (fs : List (Key × V)) (kvs : List (Key × Y))
  /-- a table of code objects; T: all tables with the names of what they tell -/
  | tab (T : List (Addr × Str))
abbrev Mu := Addr → Option MO
def mu (m : Mu) (a : Addr) (o : MO) : Mu := fun b => if b = a then some o else m b
theorem mu_same {m : Mu} {a : Addr} {o : MO} : mu m a o a = some o := if_pos rfl
theorem mu_ne {m : Mu} {a b : Addr} {o : MO} (h : b ≠ a) : mu m a o b = m b := if_neg h
theorem mu_mu {m : Mu} {a : Addr} {o u : MO} : mu (mu m a o) a u = mu m a u := by
  funext b; unfold mu; split <;> rfl
theorem mu_self {m : Mu} {a : Addr} {o : MO} (h : m a = some o) : mu m a o = m := by
  funext b; unfold mu; split
  · rename_i e; rw [e, h]
  · rfl
abbrev RF (K : PySem.W.Frag) (G : Hp) : List (Str × V) → List (Str × Y) → Prop := Paired fun p q => p.1 = q.1 ∧ RV K G p.2 q.2
abbrev RK (K : PySem.W.Frag) (G : Hp) : List (Key × V) → List (Key × Y) → Prop := Paired fun p q => p.1 = q.1 ∧ RV K G p.2 q.2
inductive RO (K : PySem.W.Frag) (G : Hp) : HO → MO → Prop
  | lst {ws : List V} {ys : List Y} : RVs K G ws ys → RO K G (.lst ws) (.lst ys)
  | tup {ws : List V} {ys : List Y} : RVs K G ws ys → RO K G (.tup ws) (.tup ys)
  | ins {C dx : Addr} {fs : List (Str × V)} {gs : List (Str × Y)} : RF K G fs gs → RO K G (.ins C dx fs) (.ins C dx gs)
  | dic {fs : List (Key × V)} {gs : List (Key × Y)} : RK K G fs gs → RO K G (.dK fs) (.dic gs)
  | dicF {o : Obj} {fs : List (Key × V)} {gs : List (Key × Y)} : RK K G fs gs → RO K G (.frz o (.dK fs)) (.dicF o fs gs)
  | tab {ps : Array Value} {T : List (Addr × Str)} : RO K G (.tbl ps) (.tab T)

section
variable {K : PySem.W.Frag} {G G' H H' : Hp} {m : Mu} {p : Addr}
theorem RF.mono (e : Ex G G') : ∀ {fs : List (Str × V)} {gs : List (Str × Y)}, RF K G fs gs → RF K G' fs gs
  | _, _, .nil => .nil
  | _, _, .cons h t => .cons ⟨h.1, h.2.mono e⟩ (RF.mono e t)
theorem RK.mono (e : Ex G G') : ∀ {fs : List (Key × V)} {gs : List (Key × Y)}, RK K G fs gs → RK K G' fs gs
  | _, _, .nil => .nil
  | _, _, .cons h t => .cons ⟨h.1, h.2.mono e⟩ (RK.mono e t)
theorem RO.mono (e : Ex G G') {o : HO} {u : MO} (h : RO K G o u) : RO K G' o u := by
  cases h with
  | lst h => exact .lst (h.mono e)
  | tup h => exact .tup (h.mono e)
  | ins h => exact .ins (h.mono e)
  | dic h => exact .dic (h.mono e)
  | dicF h => exact .dicF (h.mono e)
  | tab => exact .tab
/-- the table at P: what it tells is known in G -/
def TabG (G H : Hp) (P : Addr) (q : Str) : Prop := ∃ ps : Array Value, H P = some (.tbl ps) ∧ TriplesOk ps.toList ∧ ∀ (pos : Pos) (cv : Value), codeAmong pos ps.toList = some cv → ∃ c, cv = .ref c ∧ G c = some (LamX.CodeO c q)
/-- the tables of m: all of the same list, and all of this list -/
def TbOk (G : Hp) (m : Mu) (H : Hp) : Prop := ∀ a T, m a = some (.tab T) → (∃ q, (a, q) ∈ T) ∧ (∀ p ∈ T, m p.1 = some (.tab T) ∧ TabG G H p.1 p.2) ∧ ∀ b T', m b = some (.tab T') → T' = T
theorem TbOk.keep {m' : Mu} (r : TbOk G m H) (e : Ex G G') (h1 : ∀ a T, m' a = some (.tab T) → m a = some (.tab T)) (h2 : ∀ a T, m a = some (.tab T) → m' a = some (.tab T)) (h3 : ∀ a o, H a = some o → (∃ T, m a = some (.tab T)) → H' a = some o) : TbOk G' m' H' := fun a T h => by
  obtain ⟨a1, a2, a3⟩ := r a T (h1 a T h)
  refine ⟨a1, fun p hp => ?_, fun b T' hb => a3 b T' (h1 b T' hb)⟩
  obtain ⟨b1, ps, c1, c2, c3⟩ := a2 p hp
  refine ⟨h2 _ _ b1, ps, h3 _ _ c1 ⟨T, b1⟩, c2, fun pos cv hc => ?_⟩
  obtain ⟨c, d1, d2⟩ := c3 pos cv hc
  exact ⟨c, d1, e _ _ d2⟩
/-- G holds the data, m the objects that may change: both are parts of H -/
structure Rh (K : PySem.W.Frag) (G : Hp) (m : Mu) (H : Hp) : Prop where
  sub : Ex G H
  off : ∀ a o, m a = some o → G a = none
  mem : ∀ a o, m a = some o → ∃ h, H a = some h ∧ RO K G h o
  tb : TbOk G m H
  nt : ∀ b ps, G b ≠ some (.tbl ps)
theorem nt_upd {o : HO} (h : ∀ b ps, G b ≠ some (.tbl ps)) (ho : ∀ ps, o ≠ .tbl ps) : ∀ b ps, upd G p o b ≠ some (.tbl ps) := fun b ps e => by
  by_cases q : b = p
  · subst q; rw [upd_same] at e; exact ho ps (Option.some.inj e)
  · rw [upd_ne q] at e; exact h b ps e
theorem Rh.free (r : Rh K G m H) (h : H p = none) : G p = none ∧ m p = none := by
  constructor
  · cases e : G p with
    | none => rfl
    | some o => rw [r.sub p o e] at h; cases h
  · cases e : m p with
    | none => rfl
    | some o =>
      obtain ⟨u, q, _⟩ := r.mem p o e
      rw [q] at h; cases h
/-- more data -/
theorem Rh.data {o : HO} (r : Rh K G m H) (h : H p = none) (ho : ∀ ps, o ≠ .tbl ps := by intro _ z; cases z) : Ex G (upd G p o) ∧ Rh K (upd G p o) m (upd H p o) := by
  have f := r.free h
  have e1 : Ex G (upd G p o) := Ex.new f.1
  refine ⟨e1, ⟨fun a u e => ?_, fun a u e => ?_, fun a u e => ?_, r.tb.keep e1 (fun _ _ z => z) (fun _ _ z => z) fun a o e _ => by rw [upd_ne (ne_of_none e h)]; exact e, nt_upd r.nt ho⟩⟩
  · by_cases q : a = p
    · subst q; rw [upd_same] at e ⊢; exact e
    · rw [upd_ne q] at e ⊢; exact r.sub a u e
  · have q : a ≠ p := fun q => by subst q; rw [f.2] at e; cases e
    rw [upd_ne q]; exact r.off a u e
  · have q : a ≠ p := fun q => by subst q; rw [f.2] at e; cases e
    obtain ⟨w, e2, e3⟩ := r.mem a u e
    exact ⟨w, by rw [upd_ne q]; exact e2, e3.mono e1⟩
/-- a new object that may change -/
theorem mu_tab {u : MO} (hu : ∀ T, u ≠ .tab T) {a : Addr} {T : List (Addr × Str)} (h : mu m p u a = some (.tab T)) : m a = some (.tab T) := by
  by_cases q : a = p
  · subst q; rw [mu_same] at h; cases h; exact absurd rfl (hu T)
  · rw [mu_ne q] at h; exact h
theorem Rh.new {o : HO} {u : MO} (r : Rh K G m H) (h : H p = none) (ro : RO K G o u) (hu : ∀ T, u ≠ .tab T := by intro _ z; cases z) : Rh K G (mu m p u) (upd H p o) := by
  have f := r.free h
  refine ⟨fun a u e => ?_, fun a w e => ?_, fun a w e => ?_, r.tb.keep (Ex.refl G) (fun a T z => mu_tab hu z) (fun a T z => by rw [mu_ne (fun e => by rw [e, f.2] at z; cases z)]; exact z) (fun a o e _ => by rw [upd_ne (ne_of_none e h)]; exact e), r.nt⟩
  · rw [upd_ne (ne_of_none (r.sub a u e) h)]; exact r.sub a u e
  · by_cases q : a = p
    · subst q; exact f.1
    · rw [mu_ne q] at e; exact r.off a w e
  · by_cases q : a = p
    · subst q; rw [mu_same] at e; cases e; exact ⟨o, upd_same, ro⟩
    · rw [mu_ne q] at e
      obtain ⟨x, e2, e3⟩ := r.mem a w e
      exact ⟨x, by rw [upd_ne q]; exact e2, e3⟩
/-- an object changed -/
theorem Rh.write {o : HO} {u u0 : MO} (r : Rh K G m H) (h : m p = some u0) (ro : RO K G o u) (hu : ∀ T, u ≠ .tab T := by intro _ z; cases z) (hu0 : ∀ T, u0 ≠ .tab T := by intro _ z; cases z) : Rh K G (mu m p u) (upd H p o) := by
  have f := r.off p u0 h
  have np : ∀ a, (∃ T, m a = some (.tab T)) → a ≠ p := fun a ⟨T, z⟩ e => by rw [e, h] at z; cases z; exact hu0 T rfl
  refine ⟨fun a x e => ?_, fun a w e => ?_, fun a w e => ?_, r.tb.keep (Ex.refl G) (fun a T z => mu_tab hu z) (fun a T z => by rw [mu_ne (np a ⟨T, z⟩)]; exact z) (fun a o e z => by rw [upd_ne (np a z)]; exact e), r.nt⟩
  · rw [upd_ne (ne_of_none e f)]; exact r.sub a x e
  · by_cases q : a = p
    · subst q; exact f
    · rw [mu_ne q] at e; exact r.off a w e
  · by_cases q : a = p
    · subst q; rw [mu_same] at e; cases e; exact ⟨o, upd_same, ro⟩
    · rw [mu_ne q] at e
      obtain ⟨x, e2, e3⟩ := r.mem a w e
      exact ⟨x, by rw [upd_ne q]; exact e2, e3⟩
theorem Rh.lst {ys : List Y} (r : Rh K G m H) (h : m p = some (.lst ys)) : ∃ ws, H p = some (.lst ws) ∧ RVs K G ws ys := by
  obtain ⟨o, e, q⟩ := r.mem p _ h
  cases q with
  | lst q => exact ⟨_, e, q⟩
theorem Rh.tup {ys : List Y} (r : Rh K G m H) (h : m p = some (.tup ys)) : ∃ ws, H p = some (.tup ws) ∧ RVs K G ws ys := by
  obtain ⟨o, e, q⟩ := r.mem p _ h
  cases q with
  | tup q => exact ⟨_, e, q⟩
theorem Rh.ins {C dx : Addr} {gs : List (Str × Y)} (r : Rh K G m H) (h : m p = some (.ins C dx gs)) : ∃ fs, H p = some (.ins C dx fs) ∧ RF K G fs gs := by
  obtain ⟨o, e, q⟩ := r.mem p _ h
  cases q with
  | ins q => exact ⟨_, e, q⟩
theorem Rh.dic {gs : List (Key × Y)} (r : Rh K G m H) (h : m p = some (.dic gs)) : ∃ fs, H p = some (.dK fs) ∧ RK K G fs gs := by
  obtain ⟨o, e, q⟩ := r.mem p _ h
  cases q with
  | dic q => exact ⟨_, e, q⟩
/-- a lambda was made: all but the tables stays -/
theorem Rh.lam {H1 : Hp} {P : Addr} {T : List (Addr × Str)} (r : Rh K G m H) (hP : m P = some (.tab T)) (e : LamX.ExtN H H1) (t : LamX.Tabs T H1) : ∃ G1, Ex G G1 ∧ Rh K G1 m H1 ∧ ∀ c q, H1 c = some (LamX.CodeO c q) → G1 c = some (LamX.CodeO c q) := by
  classical
  obtain ⟨_, a2, a3⟩ := r.tb P T hP
  have old : ∀ b o, G b = some o → H1 b = some o := fun b o z => e b o (r.sub b o z) fun ps q => r.nt b ps (by rw [z, q])
  let G1 : Hp := fun b => if (∃ q, H1 b = some (LamX.CodeO b q)) ∧ m b = none then H1 b else G b
  have g1 : ∀ b o, G b = some o → G1 b = some o := fun b o z => by
    show (if (∃ q, H1 b = some (LamX.CodeO b q)) ∧ m b = none then H1 b else G b) = some o
    split
    · exact old b o z
    · exact z
  have sub1 : ∀ b o, G1 b = some o → H1 b = some o := fun b o z => by
    have z' : (if (∃ q, H1 b = some (LamX.CodeO b q)) ∧ m b = none then H1 b else G b) = some o := z
    split at z'
    · exact z'
    · exact old b o z'
  have tabO : ∀ a u, m a = some u → (∃ T', u = .tab T') ∨ ∃ h, H1 a = some h ∧ RO K G h u := fun a u z => by
    obtain ⟨h, q1, q2⟩ := r.mem a u z
    cases q2 with
    | tab => exact .inl ⟨_, rfl⟩
    | lst q => exact .inr ⟨_, e _ _ q1 (fun _ z => by cases z), .lst q⟩
    | tup q => exact .inr ⟨_, e _ _ q1 (fun _ z => by cases z), .tup q⟩
    | ins q => exact .inr ⟨_, e _ _ q1 (fun _ z => by cases z), .ins q⟩
    | dic q => exact .inr ⟨_, e _ _ q1 (fun _ z => by cases z), .dic q⟩
    | dicF q => exact .inr ⟨_, e _ _ q1 (fun _ z => by cases z), .dicF q⟩
  have offC : ∀ c q, H1 c = some (LamX.CodeO c q) → m c = none := fun c q d2 => by
    cases ec : m c with
    | none => rfl
    | some u =>
      exfalso
      rcases tabO c u ec with ⟨T2, rfl⟩ | ⟨h, z1, z2⟩
      · have eT2 := a3 c T2 ec
        subst eT2
        obtain ⟨⟨q, hq⟩, _, _⟩ := r.tb c T2 ec
        obtain ⟨ps2, y1, _, _⟩ := t _ hq
        have y1' : H1 c = some (.tbl ps2) := y1
        rw [d2] at y1'
        exact LamX.codeO_ne ps2 (Option.some.inj y1')
      · rw [d2] at z1
        have := Option.some.inj z1
        unfold LamX.CodeO at this
        cases z2 <;> cases this
  have inC : ∀ c q, H1 c = some (LamX.CodeO c q) → G1 c = some (LamX.CodeO c q) := fun c q d2 => by
    show (if (∃ q, H1 c = some (LamX.CodeO c q)) ∧ m c = none then H1 c else G c) = _
    rw [if_pos ⟨⟨_, d2⟩, offC c q d2⟩]
    exact d2
  refine ⟨G1, g1, ⟨sub1, fun a u z => ?_, fun a u z => ?_, fun a T' z => ?_, fun b ps z => ?_⟩, inC⟩
  · show (if (∃ q, H1 a = some (LamX.CodeO a q)) ∧ m a = none then H1 a else G a) = none
    rw [if_neg (fun y => by rw [z] at y; cases y.2)]
    exact r.off a u z
  · rcases tabO a u z with ⟨T', rfl⟩ | ⟨h, q1, q2⟩
    · have eT := a3 a T' z
      subst eT
      obtain ⟨⟨q, hq⟩, _, _⟩ := r.tb a T' z
      obtain ⟨ps, q1, _, _⟩ := t _ hq
      exact ⟨_, q1, .tab⟩
    · exact ⟨h, q1, q2.mono g1⟩
  · obtain ⟨b1, b2, b3⟩ := r.tb a T' z
    refine ⟨b1, fun p hp => ⟨(b2 p hp).1, ?_⟩, b3⟩
    have eT := a3 a T' z
    subst eT
    obtain ⟨ps, q1, q2, q3⟩ := t p hp
    refine ⟨ps, q1, q2, fun pos cv hc => ?_⟩
    obtain ⟨c, d1, d2⟩ := q3 pos cv hc
    exact ⟨c, d1, inC c _ d2⟩
  · have z' : (if (∃ q, H1 b = some (LamX.CodeO b q)) ∧ m b = none then H1 b else G b) = some (.tbl ps) := z
    split at z'
    · rename_i y
      obtain ⟨⟨q, y1⟩, _⟩ := y
      rw [y1] at z'
      exact LamX.codeO_ne ps (Option.some.inj z')
    · exact r.nt b ps z'
/-- a list that changes no more is data from now on -/
theorem Rh.frz {ds : List PyData} (r : Rh K G m H) (h : m p = some (.lst (ds.map Y.d))) :
    ∃ G', Ex G G' ∧ Rh K G' (fun b => if b = p then none else m b) H ∧ RV K G' (.ref p) (.d (.list ds)) := by
  obtain ⟨ws, e, q⟩ := r.lst h
  have f := r.off p _ h
  have e1 : Ex G (upd G p (.lst ws)) := Ex.new f
  have np : ∀ a, (∃ T, m a = some (.tab T)) → a ≠ p := fun a ⟨T, z⟩ e => by rw [e, h] at z; cases z
  refine ⟨upd G p (.lst ws), e1, ⟨fun a u e2 => ?_, fun a u e2 => ?_, fun a u e2 => ?_, r.tb.keep e1 (fun a T z => by
    have z' : (if a = p then none else m a) = some (.tab T) := z
    by_cases q : a = p
    · rw [if_pos q] at z'; cases z'
    · rwa [if_neg q] at z') (fun a T z => by show (if a = p then none else m a) = _; rw [if_neg (np a ⟨T, z⟩)]; exact z) (fun _ _ e _ => e), nt_upd r.nt (fun _ z => by cases z)⟩, .d (.lst (.inl upd_same) ((RVs.das q).mono e1))⟩
  · by_cases z : a = p
    · subst z; rw [upd_same] at e2; cases e2; exact e
    · rw [upd_ne z] at e2; exact r.sub a u e2
  · have e2' : (if a = p then none else m a) = some u := e2
    by_cases z : a = p
    · rw [if_pos z] at e2'; cases e2'
    · rw [if_neg z] at e2'; rw [upd_ne z]; exact r.off a u e2'
  · have e2' : (if a = p then none else m a) = some u := e2
    by_cases z : a = p
    · rw [if_pos z] at e2'; cases e2'
    · rw [if_neg z] at e2'
      obtain ⟨x, e3, e4⟩ := r.mem a u e2'
      exact ⟨x, e3, e4.mono e1⟩
theorem RF.lookup {f : Str} : ∀ {fs : List (Str × V)} {gs : List (Str × Y)} {y : Y}, RF K G fs gs → gs.lookup f = some y → ∃ w, fs.lookup f = some w ∧ RV K G w y
  | _, _, _, .nil, e => by simp at e
  | (a, _) :: _, (b, _) :: _, y, .cons h t, e => by
    obtain ⟨h1, h2⟩ := h
    have h1' : a = b := h1
    subst h1'
    by_cases q : (f == a) = true
    · rw [List.lookup, q] at e ⊢
      cases e; exact ⟨_, rfl, h2⟩
    · have q' : (f == a) = false := by simpa using q
      rw [List.lookup, q'] at e ⊢
      exact RF.lookup t e
theorem RF.lookup_none {f : Str} : ∀ {fs : List (Str × V)} {gs : List (Str × Y)}, RF K G fs gs → gs.lookup f = none → fs.lookup f = none
  | _, _, .nil, _ => rfl
  | (a, _) :: _, (b, _) :: _, .cons h t, e => by
    obtain ⟨h1, h2⟩ := h
    have h1' : a = b := h1
    subst h1'
    by_cases q : (f == a) = true
    · rw [List.lookup, q] at e; cases e
    · have q' : (f == a) = false := by simpa using q
      rw [List.lookup, q'] at e ⊢
      exact RF.lookup_none t e
def putY (f : Str) (v : Y) : List (Str × Y) → List (Str × Y)
  | [] => [(f, v)]
  | (g, w) :: r => if g = f then (g, v) :: r else (g, w) :: putY f v r
theorem RF.length : ∀ {fs : List (Str × V)} {gs : List (Str × Y)}, RF K G fs gs → fs.length = gs.length
  | _, _, .nil => rfl
  | _, _, .cons _ t => congrArg Nat.succ (RF.length t)
end

/-! ### the def's slots -/
abbrev Ro := List (Option Y)
inductive RS1 (K : PySem.W.Frag) (G : Hp) : Option V → Option Y → Prop
  | any (o : Option V) : RS1 K G o none
  | is {w : V} {y : Y} : RV K G w y → RS1 K G (some w) (some y)
abbrev Rs (K : PySem.W.Frag) (G : Hp) : L2.St → Ro → Prop := Paired (RS1 K G)
section
variable {K : PySem.W.Frag} {G G' : Hp}
theorem Rs.mono (e : Ex G G') : ∀ {s : L2.St} {r : Ro}, Rs K G s r → Rs K G' s r
  | _, _, .nil => .nil
  | _, _, .cons h t => .cons (by cases h with | any => exact .any _ | is q => exact .is (q.mono e)) (Rs.mono e t)
theorem Rs.get : ∀ {s : L2.St} {r : Ro} {i : Nat} {y : Y}, Rs K G s r → r[i]? = some (some y) → ∃ w, s[i]? = some (some w) ∧ RV K G w y
  | _, _, _, _, .nil, e => by simp at e
  | _, _, 0, _, .cons h _, e => by
    simp at e; subst e
    cases h with
    | is q => exact ⟨_, rfl, q⟩
  | _, _, i + 1, y, .cons _ t, e => by
    obtain ⟨v, h1, h2⟩ := Rs.get (i := i) (y := y) t (by simpa using e)
    exact ⟨v, by simpa using h1, h2⟩
theorem Rs.set {w : V} {y : Y} (h : RV K G w y) : ∀ {s : L2.St} {r : Ro} (i : Nat), Rs K G s r → Rs K G (s.set i (some w)) (r.set i (some y))
  | _, _, _, .nil => .nil
  | _, _, 0, .cons _ t => .cons (.is h) t
  | _, _, i + 1, .cons q t => .cons q (Rs.set h i t)
theorem Rs.wipe1 : ∀ {s : L2.St} {r : Ro} (i : Nat), Rs K G s r → Rs K G (s.set i none) (r.set i none)
  | _, _, _, .nil => .nil
  | _, _, 0, .cons _ t => .cons (.any _) t
  | _, _, i + 1, .cons q t => .cons q (Rs.wipe1 i t)
theorem Rs.forget : ∀ {s : L2.St} {r : Ro} (i : Nat), Rs K G s r → Rs K G s (r.set i none)
  | _, _, _, .nil => .nil
  | _, _, 0, .cons _ t => .cons (.any _) t
  | _, _, i + 1, .cons q t => .cons q (Rs.forget i t)
theorem Rs.length : ∀ {s : L2.St} {r : Ro}, Rs K G s r → s.length = r.length
  | _, _, .nil => rfl
  | _, _, .cons _ t => congrArg Nat.succ (Rs.length t)
/-- less known -/
theorem Rs.le {s : L2.St} : ∀ {r r' : Ro}, Rs K G s r → Paired (fun a b => b = none ∨ b = a) r r' → Rs K G s r' := by
  intro r r' h
  induction h generalizing r' with
  | nil => intro q; cases q; exact .nil
  | cons h t ih =>
    intro q
    cases q with
    | cons q1 q2 =>
      rcases q1 with q1 | q1
      · subst q1; exact .cons (.any _) (ih q2)
      · subst q1; exact .cons h (ih q2)
end
end Dl
/-! D2: readings by what they mean (SE ..), data transformers (XE ..), what joins them (DE ..); expressions. -/
namespace Dl
open PySem PySem.Spec PyProof.Rows L2 Evl

/-! ### readings by what they mean -/
section
variable (X : Cx)
def SE (e : Expr) : TE := fun σ H Q => ∀ (pins : List (Addr × Obj)) (s : Shared), Inv X pins σ H s → wpAny (model X.prog X.w) X.A (eval e X.env) (EP X pins σ Q) X.xe s
def STe (e : Expr) : TT := fun σ H Q => ∀ (pins : List (Addr × Obj)) (s : Shared), Inv X pins σ H s → wpAny (model X.prog X.w) X.A (isTrue e X.env (eval e X.env)) (TP X pins σ Q) X.xe s
def SWe (e : Expr) : TT := fun σ H Q => ∀ (wh : Sem Value) (pins : List (Addr × Obj)) (s : Shared), Inv X pins σ H s → wpAny (model X.prog X.w) X.A (isTrue e X.env wh) (TP X pins σ Q) X.xe s
def SA (es : List Expr) : TA := fun σ H Q => ∀ (pos : Pos) (pins : List (Addr × Obj)) (s : Shared), Inv X pins σ H s → wpAny (model X.prog X.w) X.A (spliced (backTo pos (starEach es X.env))) (AP X pins σ Q) X.xe s
end
section
variable {X : Cx} {e : Expr} {es : List Expr} {σ : L2.St} {H : Hp}
theorem se_pe : PE X e (SE X e) := ⟨fun pins s _ _ _ I h => h pins s I⟩
theorem st_pt : PT X e (STe X e) := ⟨fun pins s _ _ _ I h => h pins s I⟩
theorem sw_pw : PW X e (SWe X e) := ⟨fun wh pins s _ _ _ I h => h wh pins s I⟩
theorem sa_pa : PA X es (SA X es) := ⟨fun pos pins s _ _ _ I h => h pos pins s I⟩
theorem se_of {t : TE} {Q : VK} (h : PE X e t) (q : t σ H Q) : SE X e σ H Q := fun pins s I => h.run pins s σ H Q I q
theorem st_of' {t : TT} {Q : Bool → Hp → Prop} (h : PT X e t) (q : t σ H Q) : STe X e σ H Q := fun pins s I => h.run pins s σ H Q I q
theorem sw_of {t : TT} {Q : Bool → Hp → Prop} (h : PW X e t) (q : t σ H Q) : SWe X e σ H Q := fun wh pins s I => h.run wh pins s σ H Q I q
theorem sa_of {t : TA} {Q : List V → Hp → Prop} (h : PA X es t) (q : t σ H Q) : SA X es σ H Q := fun pos pins s I => h.run pos pins s σ H Q I q
end

/-! ### data transformers -/
abbrev XP := Value → List (Str × Y) → Mu → Prop
abbrev XE := Ro → Mu → (Y → Mu → Prop) → XP → Prop
abbrev XT := Ro → Mu → (Bool → Mu → Prop) → XP → Prop
abbrev XA := Ro → Mu → (List Y → Mu → Prop) → XP → Prop
def XF (K : PySem.W.Frag) (G H : Hp) (d : Option Addr) (fs : List (Str × Y)) : Prop := (fs = [] ∧ d = none) ∨ fs ≠ [] ∧ ∃ a vs, d = some a ∧ H a = some (.xd vs) ∧ G a = none ∧ RF K G vs fs
def CvE (K : PySem.W.Frag) (G : Hp) (F : Y → Mu → Prop) (Q : VK) : Prop := ∀ v y G' m' H', Ex G G' → Rh K G' m' H' → RV K G' v y → F y m' → Q v H'
def CvT (K : PySem.W.Frag) (G : Hp) (F : Bool → Mu → Prop) (Q : Bool → Hp → Prop) : Prop := ∀ b G' m' H', Ex G G' → Rh K G' m' H' → F b m' → Q b H'
def CvA (K : PySem.W.Frag) (G : Hp) (F : List Y → Mu → Prop) (Q : List V → Hp → Prop) : Prop := ∀ vs ys G' m' H', Ex G G' → Rh K G' m' H' → RVs K G' vs ys → F ys m' → Q vs H'
def CvX (K : PySem.W.Frag) (G : Hp) (P : XP) (E : XK) : Prop := ∀ cls d fs G' m' H', Ex G G' → Rh K G' m' H' → XF K G' H' d fs → P cls fs m' → E cls d H'
section
variable {K : PySem.W.Frag} {G G' : Hp}
theorem CvE.mono {F : Y → Mu → Prop} {Q : VK} (e : Ex G G') (c : CvE K G F Q) : CvE K G' F Q := fun v y G1 m H e1 => c v y G1 m H (e.trans e1)
theorem CvT.mono {F : Bool → Mu → Prop} {Q : Bool → Hp → Prop} (e : Ex G G') (c : CvT K G F Q) : CvT K G' F Q := fun b G1 m H e1 => c b G1 m H (e.trans e1)
theorem CvA.mono {F : List Y → Mu → Prop} {Q : List V → Hp → Prop} (e : Ex G G') (c : CvA K G F Q) : CvA K G' F Q := fun v y G1 m H e1 => c v y G1 m H (e.trans e1)
theorem CvX.mono {P : XP} {E : XK} (e : Ex G G') (c : CvX K G P E) : CvX K G' P E := fun v y f G1 m H e1 => c v y f G1 m H (e.trans e1)
theorem CvE.at {F : Y → Mu → Prop} {Q : VK} {m : Mu} {H : Hp} {v : V} {y : Y} (c : CvE K G F Q) (r : Rh K G m H) (rv : RV K G v y) (h : F y m) : Q v H := c v y G m H (Ex.refl G) r rv h
end
abbrev WEx (W : WX) (σ : L2.St) : XK := fun c d H => W c d σ H

structure DE (X : Cx) (W : WX) (e : Expr) (t : XE) : Prop where
  run : ∀ {G : Hp} {r : Ro} {m : Mu} {σ : L2.St} {H : Hp} {F : Y → Mu → Prop} {P : XP} {Q : VK}, Rs X.K G σ r → Rh X.K G m H → t r m F P → CvE X.K G F Q → CvX X.K G P (WEx W σ) → SE X e σ H Q
structure DT (X : Cx) (W : WX) (e : Expr) (t : XT) : Prop where
  run : ∀ {G : Hp} {r : Ro} {m : Mu} {σ : L2.St} {H : Hp} {F : Bool → Mu → Prop} {P : XP} {Q : Bool → Hp → Prop}, Rs X.K G σ r → Rh X.K G m H → t r m F P → CvT X.K G F Q → CvX X.K G P (WEx W σ) → STe X e σ H Q
structure DW (X : Cx) (W : WX) (e : Expr) (t : XT) : Prop where
  run : ∀ {G : Hp} {r : Ro} {m : Mu} {σ : L2.St} {H : Hp} {F : Bool → Mu → Prop} {P : XP} {Q : Bool → Hp → Prop}, Rs X.K G σ r → Rh X.K G m H → t r m F P → CvT X.K G F Q → CvX X.K G P (WEx W σ) → SWe X e σ H Q
structure DA (X : Cx) (W : WX) (es : List Expr) (t : XA) : Prop where
  run : ∀ {G : Hp} {r : Ro} {m : Mu} {σ : L2.St} {H : Hp} {F : List Y → Mu → Prop} {P : XP} {Q : List V → Hp → Prop}, Rs X.K G σ r → Rh X.K G m H → t r m F P → CvA X.K G F Q → CvX X.K G P (WEx W σ) → SA X es σ H Q

section
variable {X : Cx} {W : WX} {e a b c : Expr} {es : List Expr} {pos : Pos} {t ta tb tc : XE} {tt : XT}

/-! ### names, constants -/
abbrev xVar (i : Nat) : XE := fun r m F _ => ∃ y, r[i]? = some (some y) ∧ F y m
theorem de_var {i : Nat} (h : PE X e (tVar i)) : DE X W e (xVar i) := ⟨fun {G r m σ H F P Q} rs rh hx cv _ => by
  obtain ⟨y, e1, f⟩ := hx
  obtain ⟨w, e2, rv⟩ := rs.get e1
  exact se_of h ⟨w, e2, cv.at rh rv f⟩⟩
abbrev xC (y : Y) : XE := fun _ m F _ => F y m
theorem de_c {v : V} {y : Y} (h : PE X e (tC v)) (rv : ∀ G, RV X.K G v y) : DE X W e (xC y) := ⟨fun {G r m σ H F P Q} rs rh hx cv _ => se_of h (cv.at rh (rv G) hx)⟩
theorem de_int {i : Int} {j : Nat} : DE X W (.Constant (.int i) j pos) (xC (.d (.int i))) := de_c pe_int fun _ => .d (Da.int i)
theorem de_bl {i : Bool} {j : Nat} : DE X W (.Constant (.bool i) j pos) (xC (.d (.bool i))) := de_c pe_bl fun _ => .d (Da.bl i)
theorem de_non {j : Nat} : DE X W (.Constant .none j pos) (xC (.d .none)) := de_c pe_non fun _ => .d Da.non
theorem de_str {x : Str} {j : Nat} : DE X W (.Constant (.str x) j pos) (xC (.d (.str x))) := de_c pe_str fun _ => .d (Da.str x)
/-- a module's constant that is data -/
theorem de_glob {x : Str} {v : V} {u : Value} {y : Y} (hg : Gl X x) (hm : X.mg x = some u) (r : RelV v u) (rv : ∀ G, RV X.K G v y) (hd : (x == ("__debug__" : Str)) = false := by decide) : DE X W (.Name x pos) (xC y) := de_c (pe_glob hg hm r hd) rv

/-! ### arguments -/
abbrev xNil : XA := fun _ m F _ => F [] m
abbrev xCons (ta : XE) (tr : XA) : XA := fun r m F P => ta r m (fun y m1 => tr r m1 (fun ys m2 => F (y :: ys) m2) P) P
theorem da_nil : DA X W [] xNil := ⟨fun {G r m σ H F P Q} rs rh hx cv _ => sa_of pa_nil (cv [] [] G m H (Ex.refl G) rh .nil hx)⟩
theorem da_cons {tr : XA} (ha : DE X W e ta) (hr : DA X W es tr) (hs : starEach (e :: es) X.env = (false, eval e X.env) :: starEach es X.env := by rfl) : DA X W (e :: es) (xCons ta tr) :=
  ⟨fun {G r m σ H F P Q} rs rh hx cv cx => sa_of (pa_cons se_pe sa_pa hs) (ha.run rs rh hx (fun v y G1 m1 H1 e1 rh1 rv1 h1 =>
    hr.run (rs.mono e1) rh1 h1 (fun vs ys G2 m2 H2 e2 rh2 rv2 h2 => cv (v :: vs) (y :: ys) G2 m2 H2 (e1.trans e2) rh2 (.cons (rv1.mono e2) rv2) h2) (cx.mono e1)) cx)⟩

/-! ### displays -/
def allD : List Y → Option (List PyData)
  | [] => some []
  | .d x :: r => (allD r).map (x :: ·)
  | _ :: _ => none
theorem allD_some : ∀ {ys : List Y} {ds : List PyData}, allD ys = some ds → ys = ds.map Y.d
  | [], ds, h => by cases h; rfl
  | .d x :: r, ds, h => by
    cases q : allD r with
    | none => rw [allD, q] at h; cases h
    | some es =>
      rw [allD, q] at h
      cases h
      rw [List.map_cons, ← allD_some q]
  | .l _ :: _, _, h => by cases h
  | .v _ :: _, _, h => by cases h
  | .r _ :: _, _, h => by cases h
theorem allD_map : ∀ ds : List PyData, allD (ds.map Y.d) = some ds
  | [] => rfl
  | d :: ds => by rw [List.map_cons, allD, allD_map ds]; rfl
/-- a new tuple: of data it is data -/
abbrev mkT (ys : List Y) (m : Mu) (F : Y → Mu → Prop) : Prop :=
  match allD ys with
  | some ds => F (.d (.tuple ds)) m
  | none => ∀ p, m p = none → F (.l p) (mu m p (.tup ys))
theorem mkT_ok {K : PySem.W.Frag} {G H : Hp} {m : Mu} {F : Y → Mu → Prop} {Q : VK} {vs : List V} {ys : List Y} {p : Addr} (rh : Rh K G m H) (rv : RVs K G vs ys) (hp : H p = none) (h : mkT ys m F) (cv : CvE K G F Q) : Q (.ref p) (upd H p (.tup vs)) := by
  unfold mkT at h
  cases q : allD ys with
  | some ds =>
    rw [q] at h
    have e := allD_some q
    subst e
    obtain ⟨e1, r1⟩ := rh.data (o := .tup vs) hp
    exact cv _ _ _ m _ e1 r1 (.d (.tup (.inl (.inl upd_same)) ((RVs.das rv).mono e1))) h
  | none =>
    rw [q] at h
    exact cv _ _ G _ _ (Ex.refl G) (rh.new hp (.tup rv)) (.l p) (h p (rh.free hp).2)
abbrev xTup (t : XA) : XE := fun r m F P => t r m (fun ys m1 => ys.length ≤ 10000 ∧ mkT ys m1 F) P
def szl : (10000 : Nat) ≤ sizeLine := by decide
theorem de_tup {x1} {t : XA} (h : DA X W es t) : DE X W (.Tuple es x1 pos) (xTup t) := ⟨fun {G r m σ H F P Q} rs rh hx cv cx =>
  se_of (pe_tup sa_pa) (h.run rs rh hx (fun vs ys G1 m1 H1 e1 rh1 rv1 h1 => ⟨by rw [rv1.length]; exact Nat.le_trans h1.1 szl, fun p hp => mkT_ok rh1 rv1 hp h1.2 (cv.mono e1)⟩) cx)⟩
/-- a new list as data; one that is to change -/
abbrev xLst (t : XA) : XE := fun r m F P => t r m (fun ys m1 => ys.length ≤ 10000 ∧ ∃ ds, ys = ds.map Y.d ∧ F (.d (.list ds)) m1) P
abbrev xLstM (t : XA) : XE := fun r m F P => t r m (fun ys m1 => ys.length ≤ 10000 ∧ ∀ p, m1 p = none → F (.l p) (mu m1 p (.lst ys))) P
theorem lstD_ok {K : PySem.W.Frag} {G H : Hp} {m : Mu} {F : Y → Mu → Prop} {Q : VK} {vs : List V} {ds : List PyData} {p : Addr} (rh : Rh K G m H) (rv : RVs K G vs (ds.map Y.d)) (hp : H p = none) (h : F (.d (.list ds)) m) (cv : CvE K G F Q) : Q (.ref p) (upd H p (.lst vs)) := by
  obtain ⟨e1, r1⟩ := rh.data (o := .lst vs) hp
  exact cv _ _ _ m _ e1 r1 (.d (.lst (.inl upd_same) ((RVs.das rv).mono e1))) h
theorem lstM_ok {K : PySem.W.Frag} {G H : Hp} {m : Mu} {F : Y → Mu → Prop} {Q : VK} {vs : List V} {ys : List Y} {p : Addr} (rh : Rh K G m H) (rv : RVs K G vs ys) (hp : H p = none) (h : ∀ p, m p = none → F (.l p) (mu m p (.lst ys))) (cv : CvE K G F Q) : Q (.ref p) (upd H p (.lst vs)) :=
  cv _ _ G _ _ (Ex.refl G) (rh.new hp (.lst rv)) (.l p) (h p (rh.free hp).2)
theorem de_lst {t : XA} (h : DA X W es t) : DE X W (.List es pos) (xLst t) := ⟨fun {G r m σ H F P Q} rs rh hx cv cx =>
  se_of (pe_lst sa_pa) (h.run rs rh hx (fun vs ys G1 m1 H1 e1 rh1 rv1 h1 => ⟨by rw [rv1.length]; exact Nat.le_trans h1.1 szl, fun p hp => by
    obtain ⟨_, ds, e2, f⟩ := h1
    subst e2
    exact lstD_ok rh1 rv1 hp f (cv.mono e1)⟩) cx)⟩
theorem de_lstM {t : XA} (h : DA X W es t) : DE X W (.List es pos) (xLstM t) := ⟨fun {G r m σ H F P Q} rs rh hx cv cx =>
  se_of (pe_lst sa_pa) (h.run rs rh hx (fun vs ys G1 m1 H1 e1 rh1 rv1 h1 => ⟨by rw [rv1.length]; exact Nat.le_trans h1.1 szl, fun p hp => lstM_ok rh1 rv1 hp h1.2 (cv.mono e1)⟩) cx)⟩

/-! ### two values -/
abbrev XR := Y → Y → Mu → (Y → Mu → Prop) → Prop
def OpD (X : Cx) (f : Value → Value → Sem Value) (xr : XR) : Prop := ∃ r : R2, OpR X f r ∧
  ∀ {G : Hp} {m : Mu} {H : Hp} {v w : V} {y z : Y} {F : Y → Mu → Prop} {Q : VK}, Rh X.K G m H → RV X.K G v y → RV X.K G w z → xr y z m F → CvE X.K G F Q → r v w H Q
abbrev xOp (xr : XR) (ta tb : XE) : XE := fun r m F P => ta r m (fun y m1 => tb r m1 (fun z m2 => xr y z m2 F) P) P
theorem OpD.or {f : Value → Value → Sem Value} {x x' : XR} (h : OpD X f x) (h' : OpD X f x') : OpD X f (fun y z m F => x y z m F ∨ x' y z m F) := by
  obtain ⟨r, h1, h2⟩ := h
  obtain ⟨r', h1', h2'⟩ := h'
  refine ⟨_, h1.or h1', fun {G m H v w y z F Q} rh rv rw hx cv => ?_⟩
  rcases hx with hx | hx
  · exact .inl (h2 rh rv rw hx cv)
  · exact .inr (h2' rh rv rw hx cv)
theorem OpD.imp {f : Value → Value → Sem Value} {x x' : XR} (h : OpD X f x) (i : ∀ y z m F, x' y z m F → x y z m F) : OpD X f x' := by
  obtain ⟨r, h1, h2⟩ := h
  exact ⟨r, h1, fun {G m H v w y z F Q} rh rv rw hx cv => h2 rh rv rw (i y z m F hx) cv⟩
theorem de_op {op : Operator} {xr : XR} (ho : OpD X (binaryOp op) xr) (ha : DE X W a ta) (hb : DE X W b tb) : DE X W (.BinOp a op b pos) (xOp xr ta tb) := ⟨fun {G r m σ H F P Q} rs rh hx cv cx => by
  obtain ⟨r2, h1, h2⟩ := ho
  exact se_of (pe_op h1 se_pe se_pe) (ha.run rs rh hx (fun v y G1 m1 H1 e1 rh1 rv1 q1 =>
    hb.run (rs.mono e1) rh1 q1 (fun w z G2 m2 H2 e2 rh2 rv2 q2 => h2 rh2 (rv1.mono e2) rv2 q2 (cv.mono (e1.trans e2))) (cx.mono e1)) cx)⟩
theorem de_cmp {op : CmpOp} {xr : XR} (ho : OpD X (compareOp op) xr) (ha : DE X W a ta) (hb : DE X W b tb) (hm : behindInMarks op b = false) : DE X W (.Compare a [op] [b] pos) (xOp xr ta tb) := ⟨fun {G r m σ H F P Q} rs rh hx cv cx => by
  obtain ⟨r2, h1, h2⟩ := ho
  exact se_of (pe_cmpR h1 se_pe se_pe hm) (ha.run rs rh hx (fun v y G1 m1 H1 e1 rh1 rv1 q1 =>
    hb.run (rs.mono e1) rh1 q1 (fun w z G2 m2 H2 e2 rh2 rv2 q2 => h2 rh2 (rv1.mono e2) rv2 q2 (cv.mono (e1.trans e2))) (cx.mono e1)) cx)⟩
/-- a value that is a truth value -/
abbrev xB (t : XE) : XT := fun r m F P => t r m (fun y m1 => ∃ k, y = .d (.bool k) ∧ F k m1) P
theorem dt_cmp {op : CmpOp} {xr : XR} (ho : OpD X (compareOp op) xr) (ha : DE X W a ta) (hb : DE X W b tb) (hm : behindInMarks op b = false) : DT X W (.Compare a [op] [b] pos) (xB (xOp xr ta tb)) := ⟨fun {G r m σ H F P Q} rs rh hx cv cx => by
  obtain ⟨r2, h1, h2⟩ := ho
  exact st_of' (pt_cmpR h1 se_pe se_pe hm) (ha.run rs rh hx (fun v y G1 m1 H1 e1 rh1 rv1 q1 =>
    hb.run (rs.mono e1) rh1 q1 (fun w z G2 m2 H2 e2 rh2 rv2 q2 => h2 rh2 (rv1.mono e2) rv2 q2 (fun u x G3 m3 H3 e3 rh3 rv3 ⟨k, ek, f⟩ => by
      subst ek
      cases rv3.da
      exact ⟨k, rfl, cv k G3 m3 H3 ((e1.trans e2).trans e3) rh3 f⟩)) (cx.mono e1)) cx)⟩

/-- whole numbers -/
abbrev xI2 (C : Int → Int → Prop) (g : Int → Int → PyData) : XR := fun y z m F =>
  match y, z with
  | .d (.int i), .d (.int j) => C i j ∧ F (.d (g i j)) m
  | _, _ => False
theorem opd_I {f : Value → Value → Sem Value} {C : Int → Int → Prop} {g : Int → Int → V} {g' : Int → Int → PyData} (h : OpR X f (rI C g)) (hg : ∀ G i j, Da X.K G (g i j) (g' i j)) : OpD X f (xI2 C g') := by
  refine ⟨_, h, fun {G m H v w y z F Q} rh rv rw hx cv => ?_⟩
  unfold xI2 at hx
  split at hx
  · rename_i i j
    cases rv.da; cases rw.da
    exact ⟨i, j, rfl, rfl, hx.1, cv.at rh (.d (hg G i j)) hx.2⟩
  · exact hx.elim
theorem opd_I0 {f : Value → Value → Sem Value} {g : Int → Int → V} {g' : Int → Int → PyData} (h : OpR X f (rI0 g)) (hg : ∀ G i j, Da X.K G (g i j) (g' i j)) : OpD X f (xI2 (fun _ _ => True) g') := by
  refine ⟨_, h, fun {G m H v w y z F Q} rh rv rw hx cv => ?_⟩
  unfold xI2 at hx
  split at hx
  · rename_i i j
    cases rv.da; cases rw.da
    exact ⟨i, j, rfl, rfl, cv.at rh (.d (hg G i j)) hx.2⟩
  · exact hx.elim
end
end Dl
/-! D3: operators, comparisons, subscripts, slices, built-in functions, on data. -/
namespace Dl
open PySem PySem.Spec PyProof.Rows L2 Evl

section
variable {X : Cx} {W : WX} {e a b c : Expr} {es : List Expr} {pos : Pos} {t ta tb tc : XE} {tt : XT} {K : PySem.W.Frag} {G H : Hp} {m : Mu}

/-! ### what a value is, from its data -/
theorem RV.int {w : V} {i : Int} (h : RV K G w (.d (.int i))) : w = .int i := by cases h.da; rfl
theorem RV.bl {w : V} {i : Bool} (h : RV K G w (.d (.bool i))) : w = .bl i := by cases h.da; rfl
theorem RV.str {w : V} {x : Str} (h : RV K G w (.d (.str x))) : w = .str x := by cases h.da; rfl
theorem RV.non {w : V} (h : RV K G w (.d .none)) : w = .non := by cases h.da; rfl
theorem RV.lst {w : V} {ds : List PyData} (h : RV K G w (.d (.list ds))) : ∃ p vs, w = .ref p ∧ Rd G p (.lst vs) ∧ DaAll K G vs ds := by
  cases h.da with
  | lst r q => exact ⟨_, _, rfl, r, q⟩
theorem RV.tup {w : V} {ds : List PyData} (h : RV K G w (.d (.tuple ds))) : ∃ p vs, w = .ref p ∧ SqT K G p vs ∧ DaAll K G vs ds := by
  cases h.da with
  | tup r q => exact ⟨_, _, rfl, r, q⟩
theorem RV.loc {w : V} {p : Addr} (h : RV K G w (.l p)) : w = .ref p := by cases h; rfl
theorem RV.rd {w : V} {ds : List PyData} (h : RV K G w (.r ds)) : ∃ p vs, w = .ref p ∧ SqL K G p vs ∧ DaAll K G vs ds := by
  cases h with
  | r r q => exact ⟨_, _, rfl, r, q⟩
theorem rd_sub {p : Addr} {u : HO} (rh : Rh K G m H) (h : Rd G p u) : Rd H p u := ex_rd rh.sub h
/-- a sequence at p: its items -/
abbrev SqY (m : Mu) : Y → List Y → Prop
  | .d (.list ds), ys => ys = ds.map Y.d
  | .d (.tuple ds), ys => ys = ds.map Y.d
  | .r ds, ys => ys = ds.map Y.d
  | .l p, ys => m p = some (.lst ys) ∨ m p = some (.tup ys)
  | _, _ => False
theorem sqY_ok {w : V} {y : Y} {ys : List Y} (rh : Rh K G m H) (rv : RV K G w y) (h : SqY m y ys) : ∃ p vs, w = .ref p ∧ (SqL K H p vs ∨ SqT K H p vs) ∧ RVs K G vs ys := by
  cases rv with
  | d q =>
    cases q with
    | lst r q => cases h; exact ⟨_, _, rfl, .inl (.inl (rd_sub rh r)), q.rvs⟩
    | tup r q => cases h; exact ⟨_, _, rfl, .inr (ex_t rh.sub r), q.rvs⟩
    | _ => exact h.elim
  | l p =>
    rcases h with h | h
    · obtain ⟨ws, e, q⟩ := rh.lst h
      exact ⟨p, ws, rfl, .inl (SqL.of e), q⟩
    · obtain ⟨ws, e, q⟩ := rh.tup h
      exact ⟨p, ws, rfl, .inr (SqT.of e), q⟩
  | v x => exact h.elim
  | r r q => cases h; exact ⟨_, _, rfl, .inl (ex_l rh.sub r), q.rvs⟩

/-! ### + -/
abbrev xAddT : XR := fun y z m F => ∃ ds es, y = .d (.tuple ds) ∧ z = .d (.tuple es) ∧ ds.length + es.length ≤ 10000 ∧ F (.d (.tuple (ds ++ es))) m
theorem opd_addT : OpD X (binaryOp .Add) xAddT := by
  refine ⟨_, op_catA, fun {G m H v w y z F Q} rh rv rw hx cv => ?_⟩
  obtain ⟨ds, es, rfl, rfl, hz, f⟩ := hx
  obtain ⟨p, vs, rfl, s1, q1⟩ := rv.tup
  obtain ⟨p2, vs2, rfl, s2, q2⟩ := rw.tup
  refine ⟨p, p2, vs, vs2, rfl, rfl, ex_t rh.sub s1, ex_t rh.sub s2, by rw [q1.length, q2.length]; exact Nat.le_trans hz szl, fun e => ?_, fun e1 e2 => ?_, fun e1 e2 q hq => ?_⟩
  · subst e
    cases q1
    exact cv.at rh rw f
  · subst e2
    cases q2
    rw [List.append_nil] at f
    exact cv.at rh rv f
  · obtain ⟨e3, r3⟩ := rh.data (o := .tup (vs ++ vs2)) hq
    exact cv _ _ _ m _ e3 r3 (.d (.tup (.inl (.inl upd_same)) ((q1.app q2).mono e3))) f
/-- list + list, a new list that is data -/
def rCatD : R2 := fun x y H Q => ∃ l b xs zs, x = .ref l ∧ y = .ref b ∧ Rd H l (.lst xs) ∧ Rd H b (.lst zs) ∧ xs.length + zs.length ≤ sizeLine ∧ ∀ p, H p = none → Q (.ref p) (upd H p (.lst (xs ++ zs)))
theorem rd_lst {pins : List (Addr × Obj)} {σ : L2.St} {s : Shared} {l : Addr} {xs : List V} (I : Inv X pins σ H s) (h : Rd H l (.lst xs)) :
    xs.length ≤ sizeLine ∧ ∃ (its : List Value) (n : Nat), Vals xs its ∧ s.heap.get? l = some { cls := .type "list", data := .seq its.toArray n } := h.ok I.hok
theorem opr_catD : OpR X (binaryOp .Add) rCatD := by
  intro pins s σ H x y v u Q I rx ry h
  obtain ⟨l, b, xs, zs, rfl, rfl, hH, hB, hz, q⟩ := h
  cases rx
  cases ry
  obtain ⟨z, its, n, r, e⟩ := rd_lst I hH
  obtain ⟨z2, its2, n2, r2, e2⟩ := rd_lst I hB
  have l1 := r.length
  have l2 := r2.length
  refine PySem.P.add_list e e2 ?_ (by rw [List.size_toArray, List.size_toArray, ← l1, ← l2]; exact hz)
  rw [show its.toArray ++ its2.toArray = (its ++ its2).toArray by simp]
  exact ⟨.ref _, _, I.lnew (t' := s.toks) (r.append r2) (by rw [List.length_append]; exact hz), rfl, q _ I.fresh⟩
/-- the lists' items -/
abbrev LsY (m : Mu) : Y → List Y → Prop
  | .d (.list ds), ys => ys = ds.map Y.d
  | .l p, ys => m p = some (.lst ys)
  | _, _ => False
theorem lsY_ok {w : V} {y : Y} {ys : List Y} (rh : Rh K G m H) (rv : RV K G w y) (h : LsY m y ys) : ∃ p vs, w = .ref p ∧ Rd H p (.lst vs) ∧ RVs K G vs ys := by
  cases rv with
  | d q =>
    cases q with
    | lst r q => cases h; exact ⟨_, _, rfl, rd_sub rh r, q.rvs⟩
    | _ => exact h.elim
  | l p =>
    obtain ⟨ws, e, q⟩ := rh.lst h
    exact ⟨p, ws, rfl, .inl e, q⟩
  | v x => exact h.elim
  | r r q => exact h.elim
abbrev xAddL : XR := fun y z m F => ∃ ys zs ds, LsY m y ys ∧ LsY m z zs ∧ ys.length + zs.length ≤ 10000 ∧ ys ++ zs = ds.map Y.d ∧ F (.d (.list ds)) m
theorem opd_addL : OpD X (binaryOp .Add) xAddL := by
  refine ⟨_, opr_catD, fun {G m H v w y z F Q} rh rv rw hx cv => ?_⟩
  obtain ⟨ys, zs, ds, h1, h2, hz, ee, f⟩ := hx
  obtain ⟨p, vs, rfl, s1, q1⟩ := lsY_ok rh rv h1
  obtain ⟨p2, vs2, rfl, s2, q2⟩ := lsY_ok rh rw h2
  refine ⟨p, p2, vs, vs2, rfl, rfl, s1, s2, by rw [q1.length, q2.length]; exact Nat.le_trans hz szl, fun q hq => ?_⟩
  have q3 := q1.app q2
  rw [ee] at q3
  exact lstD_ok rh q3 hq f cv
abbrev xAddS : XR := fun y z m F => ∃ i j, y = .d (.str i) ∧ z = .d (.str j) ∧ i.length + j.length ≤ 10000 ∧ F (.d (.str (i ++ j))) m
theorem opd_addS : OpD X (binaryOp .Add) xAddS := by
  refine ⟨_, op_add_str, fun {G m H v w y z F Q} rh rv rw hx cv => ?_⟩
  obtain ⟨i, j, rfl, rfl, hz, f⟩ := hx
  cases rv.str; cases rw.str
  exact ⟨i, j, rfl, rfl, Nat.le_trans hz szl, cv.at rh (.d (.str _)) f⟩
abbrev xAdd : XR := fun y z m F =>
  match y, z with
  | .d (.int i), .d (.int j) => F (.d (.int (i + j))) m
  | .d (.tuple a), .d (.tuple b) => a.length + b.length ≤ 10000 ∧ F (.d (.tuple (a ++ b))) m
  | .d (.str a), .d (.str b) => a.length + b.length ≤ 10000 ∧ F (.d (.str (a ++ b))) m
  | y, z => ∃ ys zs ds, LsY m y ys ∧ LsY m z zs ∧ ys.length + zs.length ≤ 10000 ∧ ys ++ zs = ds.map Y.d ∧ F (.d (.list ds)) m
theorem opd_add : OpD X (binaryOp .Add) xAdd := by
  refine ((((opd_I0 op_add fun _ _ _ => Da.int _).or opd_addT).or opd_addS).or opd_addL).imp fun y z m F h => ?_
  unfold xAdd at h
  split at h
  · exact .inl (.inl (.inl ⟨trivial, h⟩))
  · exact .inl (.inl (.inr ⟨_, _, rfl, rfl, h.1, h.2⟩))
  · exact .inl (.inr ⟨_, _, rfl, rfl, h.1, h.2⟩)
  · exact .inr h
abbrev xSub : XR := fun y z m F => match y, z with
  | .d (.int i), .d (.int j) => F (.d (.int (i - j))) m
  | _, _ => False
theorem opd_sub : OpD X (binaryOp .Sub) xSub := (opd_I0 op_sub fun _ _ _ => Da.int _).imp fun y z m F h => by
  unfold xSub at h; split at h
  · exact ⟨trivial, h⟩
  · exact h.elim
abbrev xMul : XR := fun y z m F => match y, z with
  | .d (.int i), .d (.int j) => CMul i j ∧ F (.d (.int (i * j))) m
  | _, _ => False
theorem opd_mul : OpD X (binaryOp .Mult) xMul := (opd_I op_mul fun _ _ _ => Da.int _).imp fun y z m F h => by
  unfold xMul at h; split at h
  · exact h
  · exact h.elim
abbrev xFdiv : XR := fun y z m F => match y, z with
  | .d (.int i), .d (.int j) => (0 < j ∧ j < 1073741824) ∧ F (.d (.int (i / j))) m
  | _, _ => False
theorem opd_fdiv : OpD X (binaryOp .FloorDiv) xFdiv := (opd_I op_fdiv fun _ _ _ => Da.int _).imp fun y z m F h => by
  unfold xFdiv at h; split at h
  · exact h
  · exact h.elim
abbrev xMod : XR := fun y z m F => match y, z with
  | .d (.int i), .d (.int j) => 0 < j ∧ F (.d (.int (i % j))) m
  | _, _ => False
theorem opd_mod : OpD X (binaryOp .Mod) xMod := (opd_I op_mod fun _ _ _ => Da.int _).imp fun y z m F h => by
  unfold xMod at h; split at h
  · exact h
  · exact h.elim
abbrev xPow : XR := fun y z m F => match y, z with
  | .d (.int i), .d (.int j) => CPow i j ∧ F (.d (.int (i ^ j.toNat))) m
  | _, _ => False
theorem opd_pow : OpD X (binaryOp .Pow) xPow := (opd_I op_pow fun _ _ _ => Da.int _).imp fun y z m F h => by
  unfold xPow at h; split at h
  · exact h
  · exact h.elim

/-! ### comparisons -/
abbrev xCi (p : Int → Int → Bool) : XR := fun y z m F => match y, z with
  | .d (.int i), .d (.int j) => F (.d (.bool (p i j))) m
  | _, _ => False
theorem xci_imp {p : Int → Int → Bool} {y z : Y} {m : Mu} {F : Y → Mu → Prop} (h : xCi p y z m F) : xI2 (fun _ _ => True) (fun i j => .bool (p i j)) y z m F := by
  unfold xCi at h; split at h
  · exact ⟨trivial, h⟩
  · exact h.elim
theorem opd_lt : OpD X (compareOp .Lt) (xCi fun i j => decide (i < j)) := (opd_I0 op_lt fun _ _ _ => Da.bl _).imp fun _ _ _ _ h => xci_imp h
theorem opd_le : OpD X (compareOp .LtE) (xCi fun i j => decide (i ≤ j)) := (opd_I0 op_le fun _ _ _ => Da.bl _).imp fun _ _ _ _ h => xci_imp h
theorem opd_gt : OpD X (compareOp .Gt) (xCi fun i j => decide (j < i)) := (opd_I0 op_gt fun _ _ _ => Da.bl _).imp fun _ _ _ _ h => xci_imp h
theorem opd_ge : OpD X (compareOp .GtE) (xCi fun i j => decide (j ≤ i)) := (opd_I0 op_ge fun _ _ _ => Da.bl _).imp fun _ _ _ _ h => xci_imp h
/-- == of plain values -/
def sEq : PyData → PyData → Option Bool
  | .none, .none => some true | .none, .int _ => some false | .int _, .none => some false | .none, .bool _ => some false | .bool _, .none => some false | .none, .str _ => some false | .str _, .none => some false
  | .int i, .int j => some (decide (i = j)) | .bool i, .bool j => some (decide (i = j)) | .str i, .str j => some (decide (i = j))
  | .int _, .str _ => some false | .str _, .int _ => some false | .bool _, .str _ => some false | .str _, .bool _ => some false
  | _, _ => none
theorem sEq_ok {d d' : PyData} {k : Bool} {v w : V} (h : sEq d d' = some k) (hv : Da K G v d) (hw : Da K G w d') : scal v w = true ∧ decide (v = w) = k := by
  unfold sEq at h
  split at h <;> first
    | (cases h; cases hv; cases hw; exact ⟨rfl, by simp⟩)
    | cases h
mutual
theorem Da.dp : ∀ {v : V} {d : PyData}, d.canLay0 = true → Da K H v d → Dp K H v d
  | _, _, _, .non => .non
  | _, _, _, .bl b => .bl b
  | _, _, _, .int i => .int i
  | _, _, _, .str x => .str x
  | _, _, h, .lst r q => .lst (.inl r) (DaAll.dp (by simpa [PyData.canLay0] using h) q)
  | _, _, h, .tup r q => .tup r (DaAll.dp (by simpa [PyData.canLay0] using h) q)
  | _, _, h, .dic _ _ _ _ => by simp [PyData.canLay0] at h
theorem DaAll.dp : ∀ {vs : List V} {ds : List PyData}, PyData.canLayAll0 ds = true → DaAll K H vs ds → DpAll K H vs ds
  | _, _, _, .nil => .nil
  | _, _, h, .cons q t => by
    simp [PyData.canLayAll0] at h
    exact .cons (Da.dp h.1 q) (DaAll.dp h.2 t)
end
abbrev xEq : XR := fun y z m F => match y, z with
  | .d a, .d b => (match sEq a b with
    | some k => F (.d (.bool k)) m
    | none => SeqAt.shaped a = true ∧ SeqAt.shaped b = true ∧ F (.d (.bool (PyData.eqv a b))) m)
  | _, _ => False
abbrev xNe : XR := fun y z m F => match y, z with
  | .d a, .d b => (match sEq a b with
    | some k => F (.d (.bool !k)) m
    | none => SeqAt.shaped a = true ∧ SeqAt.shaped b = true ∧ F (.d (.bool !(PyData.eqv a b))) m)
  | _, _ => False
theorem shaped_lay {d : PyData} (h : SeqAt.shaped d = true) : d.canLay0 = true := by
  unfold SeqAt.shaped at h
  simp at h
  exact h.1
theorem opd_eq (hu : X.A.units + 64 < cLine) : OpD X (compareOp .Eq) xEq := by
  refine ⟨_, op_eq.or (op_eqD hu), fun {G m H v w y z F Q} rh rv rw hx cv => ?_⟩
  unfold xEq at hx
  split at hx
  · rename_i d d'
    cases q : sEq d d' with
    | some k =>
      rw [q] at hx
      obtain ⟨h1, h2⟩ := sEq_ok q rv.da rw.da
      exact .inl ⟨h1, by rw [h2]; exact cv.at rh (.d (.bl k)) hx⟩
    | none =>
      rw [q] at hx
      obtain ⟨h1, h2, h3⟩ := hx
      exact .inr ⟨d, d', (rv.da.mono rh.sub).dp (shaped_lay h1), (rw.da.mono rh.sub).dp (shaped_lay h2), h1, h2, cv.at rh (.d (.bl _)) h3⟩
  · exact hx.elim
theorem opd_ne (hu : X.A.units + 64 < cLine) : OpD X (compareOp .NotEq) xNe := by
  refine ⟨_, op_ne.or (op_neD hu), fun {G m H v w y z F Q} rh rv rw hx cv => ?_⟩
  unfold xNe at hx
  split at hx
  · rename_i d d'
    cases q : sEq d d' with
    | some k =>
      rw [q] at hx
      obtain ⟨h1, h2⟩ := sEq_ok q rv.da rw.da
      exact .inl ⟨h1, by rw [h2]; exact cv.at rh (.d (.bl _)) hx⟩
    | none =>
      rw [q] at hx
      obtain ⟨h1, h2, h3⟩ := hx
      exact .inr ⟨d, d', (rv.da.mono rh.sub).dp (shaped_lay h1), (rw.da.mono rh.sub).dp (shaped_lay h2), h1, h2, cv.at rh (.d (.bl _)) h3⟩
  · exact hx.elim
/-- is None -/
def isN : Y → Bool
  | .d .none => true
  | .v .non => true
  | _ => false
theorem isN_ok {v : V} {y : Y} (rv : RV K G v y) : decide (v = .non) = isN y := by
  cases rv with
  | d q => cases q <;> rfl
  | l p => rfl
  | v => cases v <;> rfl
  | r _ _ => rfl
abbrev xIsN : XR := fun y z m F => z = .d .none ∧ F (.d (.bool (isN y))) m
abbrev xNotN : XR := fun y z m F => z = .d .none ∧ F (.d (.bool !(isN y))) m
theorem opd_isN : OpD X (compareOp .Is) xIsN := ⟨_, op_isN, fun {G m H v w y z F Q} rh rv rw hx cv => by
  obtain ⟨rfl, f⟩ := hx
  exact ⟨rw.non, by rw [isN_ok rv]; exact cv.at rh (.d (.bl _)) f⟩⟩
theorem opd_notN : OpD X (compareOp .IsNot) xNotN := ⟨_, op_notN, fun {G m H v w y z F Q} rh rv rw hx cv => by
  obtain ⟨rfl, f⟩ := hx
  exact ⟨rw.non, by rw [isN_ok rv]; exact cv.at rh (.d (.bl _)) f⟩⟩
/-- x is True -/
abbrev xIsB : XR := fun y z m F => ∃ i j, y = .d (.bool i) ∧ z = .d (.bool j) ∧ F (.d (.bool (decide (i = j)))) m
theorem opd_isB : OpD X (compareOp .Is) xIsB := ⟨_, op_isBl, fun {G m H v w y z F Q} rh rv rw hx cv => by
  obtain ⟨i, j, rfl, rfl, f⟩ := hx
  exact ⟨i, j, rv.bl, rw.bl, cv.at rh (.d (.bl _)) f⟩⟩
abbrev xNotB : XR := fun y z m F => ∃ i j, y = .d (.bool i) ∧ z = .d (.bool j) ∧ F (.d (.bool !(decide (i = j)))) m
theorem opd_notB : OpD X (compareOp .IsNot) xNotB := ⟨_, op_notBl, fun {G m H v w y z F Q} rh rv rw hx cv => by
  obtain ⟨i, j, rfl, rfl, f⟩ := hx
  exact ⟨i, j, rv.bl, rw.bl, cv.at rh (.d (.bl _)) f⟩⟩

/-! ### in -/
def flatD : PyData → Bool
  | .none | .bool _ | .int _ | .str _ => true
  | _ => false
def toV : PyData → V
  | .none => .non | .bool b => .bl b | .int i => .int i | .str x => .str x | _ => .non
theorem toV_ok {d : PyData} {v : V} (f : flatD d = true) (h : Da K G v d) : v = toV d := by
  cases h <;> first | rfl | cases f
theorem flat_ok {d : PyData} {v : V} (f : flatD d = true) (h : Da K G v d) : flatV v = true := by
  cases h <;> first | rfl | cases f
theorem flat_all : ∀ {ds : List PyData} {vs : List V}, ds.all flatD = true → DaAll K G vs ds → vs.all flatV = true ∧ vs = ds.map toV
  | _, _, _, .nil => ⟨rfl, rfl⟩
  | _, _, f, .cons h t => by
    rw [List.all_cons, Bool.and_eq_true] at f
    obtain ⟨h1, h2⟩ := flat_all f.2 t
    exact ⟨by rw [List.all_cons, flat_ok f.1 h, h1]; rfl, by rw [List.map_cons, toV_ok f.1 h, h2]⟩
def inD (d : PyData) (ds : List PyData) : Bool := inV (toV d) (ds.map toV)
abbrev xIn (neg : Bool) : XR := fun y z m F => ∃ d ds, y = .d d ∧ SqY m z (ds.map Y.d) ∧ flatD d = true ∧ ds.all flatD = true ∧ F (.d (.bool (if neg then !inD d ds else inD d ds))) m
theorem xin_ok {neg : Bool} {v w : V} {y z : Y} {F : Y → Mu → Prop} {Q : VK} (rh : Rh K G m H) (rv : RV K G v y) (rw : RV K G w z) (hx : xIn neg y z m F) (cv : CvE K G F Q) : rIn K neg v w H Q := by
  obtain ⟨d, ds, rfl, h1, h2, h3, f⟩ := hx
  obtain ⟨p, vs, rfl, s1, q1⟩ := sqY_ok rh rw h1
  obtain ⟨e1, e2⟩ := flat_all h3 (RVs.das q1)
  refine ⟨p, vs, rfl, s1, flat_ok h2 rv.da, e1, ?_⟩
  rw [toV_ok h2 rv.da, e2]
  exact cv.at rh (.d (.bl _)) f
theorem opd_in : OpD X (compareOp .In) (xIn false) := ⟨_, op_in_seq, fun rh rv rw hx cv => xin_ok rh rv rw hx cv⟩
theorem opd_notin : OpD X (compareOp .NotIn) (xIn true) := ⟨_, op_notIn_seq, fun rh rv rw hx cv => xin_ok rh rv rw hx cv⟩

/-! ### subscripts -/
theorem atI_rvs {vs : List V} {ys : List Y} {i : Int} {y : Y} (q : RVs K G vs ys) (h : atI ys i = some y) : ∃ v, atI vs i = some v ∧ RV K G v y := by
  unfold atI at h ⊢
  rw [q.length]
  cases e : ixN ys.length i with
  | none => rw [e] at h; cases h
  | some j =>
    rw [e] at h
    exact RVs.get q h
abbrev xIx : XR := fun y z m F => ∃ i ys x, z = .d (.int i) ∧ SqY m y ys ∧ atI ys i = some x ∧ F x m
theorem ixr : IxR X (fun x y H Q => rIxL X.K x y H Q ∨ rIxT X.K x y H Q) := ix_list.or ix_tup
theorem de_ix (ha : DE X W a ta) (hb : DE X W b tb) (hs : PlainIx b) : DE X W (.Subscript a b pos) (xOp xIx ta tb) := ⟨fun {G r m σ H F P Q} rs rh hx cv cx =>
  se_of (pe_ix ixr se_pe se_pe hs) (ha.run rs rh hx (fun v y G1 m1 H1 e1 rh1 rv1 q1 =>
    hb.run (rs.mono e1) rh1 q1 (fun w z G2 m2 H2 e2 rh2 rv2 q2 => by
      obtain ⟨i, ys, x, rfl, hs2, hat, f⟩ := q2
      obtain ⟨p, vs, rfl, s1, q1⟩ := sqY_ok rh2 (rv1.mono e2) hs2
      obtain ⟨u, hu, ru⟩ := atI_rvs q1 hat
      rcases s1 with s1 | s1
      · exact .inl ⟨p, vs, i, u, rfl, rv2.int, s1, hu, cv u x G2 m2 H2 (e1.trans e2) rh2 ru f⟩
      · exact .inr ⟨p, vs, i, u, rfl, rv2.int, s1, hu, cv u x G2 m2 H2 (e1.trans e2) rh2 ru f⟩) (cx.mono e1)) cx)⟩

/-! ### slices -/
abbrev XO := Ro → Mu → (Option Int → Mu → Prop) → XP → Prop
def SO (X : Cx) (o : Option Expr) : TO := fun σ H Q => ∀ (pins : List (Addr × Obj)) (s : Shared), Inv X pins σ H s → wpAny (model X.prog X.w) X.A (evalPart o X.env) (fun u s' => ∃ o H', Inv X pins σ H' s' ∧ IsPart u o ∧ Q o H') X.xe s
theorem so_po {o : Option Expr} : PO X o (SO X o) := ⟨fun pins s _ _ _ I h => h pins s I⟩
def CvO (K : PySem.W.Frag) (G : Hp) (F : Option Int → Mu → Prop) (Q : Option Int → Hp → Prop) : Prop := ∀ b G' m' H', Ex G G' → Rh K G' m' H' → F b m' → Q b H'
structure DO (X : Cx) (W : WX) (o : Option Expr) (t : XO) : Prop where
  run : ∀ {G : Hp} {r : Ro} {m : Mu} {σ : L2.St} {H : Hp} {F : Option Int → Mu → Prop} {P : XP} {Q : Option Int → Hp → Prop}, Rs X.K G σ r → Rh X.K G m H → t r m F P → CvO X.K G F Q → CvX X.K G P (WEx W σ) → SO X o σ H Q
abbrev xoN : XO := fun _ m F _ => F none m
abbrev xoS (t : XE) : XO := fun r m F P => t r m (fun y m1 => ∃ i, y = .d (.int i) ∧ F (some i) m1) P
theorem do_none : DO X W none xoN := ⟨fun {G r m σ H F P Q} rs rh hx cv _ => fun pins s I => po_none.run pins s σ H Q I (cv none G m H (Ex.refl G) rh hx)⟩
theorem do_some (h : DE X W e t) : DO X W (some e) (xoS t) := ⟨fun {G r m σ H F P Q} rs rh hx cv cx => fun pins s I => (po_some se_pe).run pins s σ H Q I (h.run rs rh hx (fun v y G1 m1 H1 e1 rh1 rv1 q1 => by
  obtain ⟨i, rfl, f⟩ := q1
  exact ⟨i, rv1.int, cv (some i) G1 m1 H1 e1 rh1 f⟩) cx)⟩
def cutD {α : Type} (xs : List α) (lo hi : Option Int) : List α := (xs.drop (HT.sIx xs.length 0 lo)).take (HT.sIx xs.length xs.length hi - HT.sIx xs.length 0 lo)
theorem cut_rvs {vs : List V} {ys : List Y} (q : RVs K G vs ys) (lo hi : Option Int) : RVs K G (cutV vs lo hi) (cutD ys lo hi) := by
  unfold cutV cutD
  rw [q.length]
  exact RVs.take _ (RVs.drop _ q)
theorem cut_map {α β : Type} (f : α → β) (xs : List α) (lo hi : Option Int) : cutD (xs.map f) lo hi = (cutD xs lo hi).map f := by
  unfold cutD
  rw [List.length_map, ← List.map_drop, ← List.map_take]
abbrev XSR := Y → Option Int → Option Int → Mu → (Y → Mu → Prop) → Prop
def SlD (X : Cx) (xr : XSR) : Prop := ∃ r, SlR X r ∧ ∀ {G : Hp} {m : Mu} {H : Hp} {v : V} {y : Y} {lo hi : Option Int} {F : Y → Mu → Prop} {Q : VK}, Rh X.K G m H → RV X.K G v y → xr y lo hi m F → CvE X.K G F Q → r v lo hi H Q
abbrev xSl (xr : XSR) (te : XE) (tl th : XO) : XE := fun r m F P => te r m (fun y m1 => tl r m1 (fun lo m2 => th r m2 (fun hi m3 => xr y lo hi m3 F) P) P) P
theorem de_sl {lo hi : Option Expr} {tl th : XO} {p2 : Pos} {xr : XSR} (hr : SlD X xr) (he : DE X W e t) (hl : DO X W lo tl) (hh : DO X W hi th) : DE X W (.Subscript e (.Slice lo hi none p2) pos) (xSl xr t tl th) := ⟨fun {G r m σ H F P Q} rs rh hx cv cx => by
  obtain ⟨r2, h1, h2⟩ := hr
  exact se_of (pe_slice h1 se_pe so_po so_po) (he.run rs rh hx (fun v y G1 m1 H1 e1 rh1 rv1 q1 =>
    hl.run (rs.mono e1) rh1 q1 (fun a G2 m2 H2 e2 rh2 q2 =>
      hh.run (rs.mono (e1.trans e2)) rh2 q2 (fun b G3 m3 H3 e3 rh3 q3 => h2 rh3 (rv1.mono (e2.trans e3)) q3 (cv.mono ((e1.trans e2).trans e3))) (cx.mono (e1.trans e2))) (cx.mono e1)) cx)⟩
/-- t[a:b] of a tuple that is data -/
abbrev xSlT : XSR := fun y lo hi m F => ∃ ds, y = .d (.tuple ds) ∧ F (.d (.tuple (cutD ds lo hi))) m
/-- xs[a:b]: a new list, as data, or one that may change -/
abbrev xSlL : XSR := fun y lo hi m F => ∃ ys ds, ((∃ es, y = .d (.list es) ∧ ys = es.map Y.d) ∨ (∃ p, y = .l p ∧ m p = some (.lst ys)) ∨ ∃ es, y = .r es ∧ ys = es.map Y.d) ∧ cutD ys lo hi = ds.map Y.d ∧ F (.d (.list ds)) m
theorem sld_L : SlD X xSlL := ⟨_, sl_list, fun {G m H v y lo hi F Q} rh rv hx cv => by
  obtain ⟨ys, ds, hy, ec, f⟩ := hx
  have z : ∃ p vs, v = .ref p ∧ SqL X.K H p vs ∧ RVs X.K G vs ys := by
    rcases hy with ⟨es, rfl, rfl⟩ | ⟨p, rfl, hm⟩ | ⟨es, rfl, rfl⟩
    · obtain ⟨p, vs, rfl, s1, q1⟩ := rv.lst
      exact ⟨p, vs, rfl, .inl (rd_sub rh s1), q1.rvs⟩
    · obtain ⟨ws, e, q⟩ := rh.lst hm
      cases rv.loc
      exact ⟨p, ws, rfl, SqL.of e, q⟩
    · obtain ⟨p, vs, rfl, s1, q1⟩ := rv.rd
      exact ⟨p, vs, rfl, ex_l rh.sub s1, q1.rvs⟩
  obtain ⟨p, vs, rfl, s1, q1⟩ := z
  refine ⟨p, vs, rfl, s1, fun q hq => ?_⟩
  have q3 := cut_rvs q1 lo hi
  rw [ec] at q3
  exact lstD_ok rh q3 hq f cv⟩
end
end Dl
namespace Dl
open PySem PySem.Spec PyProof.Rows L2 Evl
section
variable {X : Cx} {K : PySem.W.Frag} {G H : Hp} {m : Mu}
theorem sld_T : SlD X xSlT := ⟨_, sl_tupA, fun {G m H v y lo hi F Q} rh rv hx cv => by
  obtain ⟨ds, rfl, f⟩ := hx
  obtain ⟨p, vs, rfl, s1, q1⟩ := rv.tup
  refine ⟨p, vs, rfl, ex_t rh.sub s1, fun hw => ?_, fun _ q hq => ?_⟩
  · have e : cutD ds lo hi = ds := by
      unfold cutD
      rw [← q1.length, hw.1, hw.2]
      simp [q1.length]
    rw [e] at f
    exact cv.at rh rv f
  · obtain ⟨e3, r3⟩ := rh.data (o := .tup (cutV vs lo hi)) hq
    have q3 := RVs.das (show RVs X.K G (cutV vs lo hi) ((cutD ds lo hi).map Y.d) by rw [← cut_map]; exact cut_rvs q1.rvs lo hi)
    exact cv _ _ _ m _ e3 r3 (.d (.tup (.inl (.inl upd_same)) (q3.mono e3))) f⟩
end
end Dl
/-! D4: what a def promises on data; its calls. -/
namespace Dl
open PySem PySem.Spec PyProof.Rows L2 Evl

abbrev DSp := List Y → Mu → (Y → Mu → Prop) → XP → Prop
/-- the promise for the hand layer's values -/
def cz (K : PySem.W.Frag) (d : DSp) (vs : List V) (H : Hp) (Q : VK) (E : XK) : Prop :=
  ∃ (G : Hp) (m : Mu) (ys : List Y) (F : Y → Mu → Prop) (P : XP), Rh K G m H ∧ RVs K G vs ys ∧ d ys m F P ∧ CvE K G F Q ∧ CvX K G P E
/-- the def at f keeps the promise d, called where no repr is under way -/
structure FnD (pr : Program) (w : World) (K : PySem.W.Frag) (mg : Str → Option Value) (base : Heap) (k : Nat) (f : Addr) (fd : FuncData) (ps : List Str) (d : DSp) : Prop where
  len : ∀ ys m F P, d ys m F P → ys.length = ps.length
  run : ∀ (A : Around) (outer : List Env) (s : Shared) (H : Hp) (args : Args) (us : List Value) (vs : List V) (Q : VK) (E : XK), A.guards = some [] → Room k A → Env0 pr w K mg base A outer s H →
    BindsTo s fd args (ps.zip us) → Vals vs us → cz K d vs H Q E → codeAny (model pr w) A (.call (.ref f) args) (CR (L2.CX pr w) outer pr w H s Q E) s
section
variable {pr : Program} {w : World} {K : PySem.W.Frag} {mg : Str → Option Value} {base : Heap} {f : Addr} {fd : FuncData} {ps : List Str} {d d' : DSp} {j k : Nat}
theorem FnD.mono (F : FnD pr w K mg base j f fd ps d) (h : j ≤ k) : FnD pr w K mg base k f fd ps d :=
  ⟨F.len, fun A outer s H args us vs Q E hg hr => F.run A outer s H args us vs Q E hg (hr.mono h)⟩
theorem FnD.imp (F : FnD pr w K mg base k f fd ps d) (h : ∀ ys m F P, d' ys m F P → d ys m F P) : FnD pr w K mg base k f fd ps d' :=
  ⟨fun ys m F' P q => F.len ys m F' P (h _ _ _ _ q), fun A outer s H args us vs Q E hg hr he hb hv ⟨G, m, ys, F', P, a, b, c, e⟩ => F.run A outer s H args us vs Q E hg hr he hb hv ⟨G, m, ys, F', P, a, b, h _ _ _ _ c, e⟩⟩
end

section
variable {X : Cx} {W : WX} {k : Nat} {f C : Addr} {fd : FuncData} {ps : List Str} {d : DSp} {dvs : List V} {ds : List Value} {dys : List Y} {x mn : Str} {p pos apos : Pos} {e o : Expr} {es : List Expr} {ta : XE} {t : XA}
theorem run_d {pins : List (Addr × Obj)} {σ : L2.St} {H : Hp} {s : Shared} {Q : VK} {us : List Value} {vs : List V} (F : FnD X.prog X.w X.K X.mg X.base k f fd ps d) (hr : Room k X.A) (hg : X.A.guards = some []) (hb : Binds X.K fd ps ds) (hd : Vals dvs ds)
    (tk : Takes X W) (I : Inv X pins σ H s) (r : Vals vs us) (h : cz X.K d (vs ++ dvs) H Q (WEx W σ)) : wpAny (model X.prog X.w) X.A (call (.ref f) us) (EP X pins σ Q) X.xe s := by
  have rr : Vals (vs ++ dvs) (us ++ ds) := r.append hd
  have hl : (us ++ ds).length = ps.length := by
    obtain ⟨G, m, ys, F', P, _, q2, q3, _⟩ := id h
    rw [← rr.length, q2.length]
    exact F.len _ _ _ _ q3
  refine wpAny_call (codeAny_mono (F.run X.A X.stack s H ⟨us, []⟩ (us ++ ds) (vs ++ dvs) Q (WEx W σ) hg hr I.env0 (hb s us I.kIn hl) rr h) fun z s' hq => ?_)
  match z, hq with
  | .error e, hq => exact passAt tk σ pins H s e s' I hq
  | .ok (.ret u), hq => exact I.after hq
  | .ok .next, hq => exact False.elim hq
  | .ok .brk, hq => exact False.elim hq
  | .ok .cont, hq => exact False.elim hq

/-- f(..): the written arguments, then the defaults -/
abbrev xCall (d : DSp) (dys : List Y) (t : XA) : XE := fun r m F P => t r m (fun ys m1 => d (ys ++ dys) m1 F P) P
theorem de_call (F : FnD X.prog X.w X.K X.mg X.base k f fd ps d) (hr : Room k X.A) (hgd : X.A.guards = some []) (tk : Takes X W) (hg : Gl X x) (hm : X.mg x = some (.ref f)) (hk : PySem.W.keepIn X.K (.ref f) = true) (hb : Binds X.K fd ps ds) (hd : Vals dvs ds)
    (hy : ∀ G, RVs X.K G dvs dys) (ha : DA X W (e :: es) t) (hdb : (x == ("__debug__" : Str)) = false := by decide) (he : starEach (e :: es) X.env = (false, eval e X.env) :: starEach es X.env := by rfl)
    (hpl : (backTo pos (starEach es X.env)).any (·.1) = false := by rfl) : DE X W (.Call (.Name x p) (e :: es) [] pos) (xCall d dys t) := ⟨fun {G r m σ H F' P Q} rs rh hx cv cx => fun pins s I => by
  refine wpAny_Call_Name_kw (ld_glob I hg hm ?_ hdb)
  have ha' := ha.run (Q := fun vs H1 => cz X.K d (vs ++ dvs) H1 Q (WEx W σ)) rs rh hx (fun vs ys G1 m1 H1 e1 rh1 rv1 q1 => ⟨G1, m1, ys ++ dys, F', P, rh1, rv1.app (hy G1), q1, cv.mono e1, cx.mono e1⟩) cx
  exact PySem.W.callWith_K (h₀ := X.base) I.ok.mod.kin hk (thn (ha' pos pins s I) fun us s1 ⟨vs, H1, I1, r1, q⟩ => ⟨I1.kIn, run_d F hr hgd hb hd tk I1 r1 q⟩) he hpl⟩
theorem de_call0 (F : FnD X.prog X.w X.K X.mg X.base k f fd ps d) (hr : Room k X.A) (hgd : X.A.guards = some []) (tk : Takes X W) (hg : Gl X x) (hm : X.mg x = some (.ref f)) (hk : PySem.W.keepIn X.K (.ref f) = true) (hb : Binds X.K fd ps ds) (hd : Vals dvs ds)
    (hy : ∀ G, RVs X.K G dvs dys) (hdb : (x == ("__debug__" : Str)) = false := by decide) : DE X W (.Call (.Name x p) [] [] pos) (xCall d dys xNil) := ⟨fun {G r m σ H F' P Q} rs rh hx cv cx => fun pins s I => by
  refine wpAny_Call_Name_kw (ld_glob I hg hm ?_ hdb)
  exact PySem.W.callWith_K0 I.kIn hk (run_d (us := []) F hr hgd hb hd tk I .nil ⟨G, m, dys, F', P, rh, hy G, hx, cv, cx⟩)⟩

/-- o.m(..) of an instance of the class at C -/
abbrev xMeth (C : Addr) (mn : Str) (d : DSp) (dys : List Y) (ta : XE) (t : XA) : XE := fun r m F P => ta r m (fun y m1 => ∃ a dx gs, y = .l a ∧ m1 a = some (.ins C dx gs) ∧ gs.lookup mn = none ∧ t r m1 (fun ys m2 => d (.l a :: (ys ++ dys)) m2 F P) P) P
theorem de_meth {pl : Sem Bool} (he : DE X W o ta) (c : Cls X.K C) (hm : Meth X.K C mn f) (F : FnD X.prog X.w X.K X.mg X.base k f fd ps d) (hr : Room k X.A) (hgd : X.A.guards = some []) (tk : Takes X W) (hb : Binds X.K fd ps ds) (hd : Vals dvs ds)
    (hy : ∀ G, RVs X.K G dvs dys) (ha : DA X W (e :: es) t) (hst : starEach (e :: es) X.env = (false, eval e X.env) :: starEach es X.env := by rfl) (hpl : (backTo pos (starEach es X.env)).any (·.1) = false := by rfl)
    (ht : eval (.Call (.Attribute o mn apos) (e :: es) [] pos) X.env = (eval o X.env >>= fun ov => standAt apos.atName >>= fun _ => holding [ov] (getMethod ov mn pl) >>= fun z =>
      callWith pos z.1 z.2 (backTo pos (starEach (e :: es) X.env)) (backToKw pos (keywordEach [] X.env))) := by rfl) :
    DE X W (.Call (.Attribute o mn apos) (e :: es) [] pos) (xMeth C mn d dys ta t) := ⟨fun {G r m σ H F' P Q} rs rh hx cv cx => fun pins s I => by
  have he' := he.run (Q := fun v H1 => ∃ a dx fs, v = V.ref a ∧ H1 a = some (.ins C dx fs) ∧ fs.lookup mn = none ∧ SA X (e :: es) σ H1 fun vs H2 => cz X.K d (.ref a :: (vs ++ dvs)) H2 Q (WEx W σ)) rs rh hx (fun v y G1 m1 H1 e1 rh1 rv1 q1 => by
    obtain ⟨a, dx, gs, rfl, hma, hl, q⟩ := q1
    obtain ⟨fs, hH, hf⟩ := rh1.ins hma
    cases rv1.loc
    exact ⟨a, dx, fs, rfl, hH, RF.lookup_none hf hl, ha.run (rs.mono e1) rh1 q (fun vs ys G2 m2 H2 e2 rh2 rv2 q2 => ⟨G2, m2, .l a :: (ys ++ dys), F', P, rh2, .cons (.l a) (rv2.app (hy G2)), q2, cv.mono (e1.trans e2), cx.mono (e1.trans e2)⟩) (cx.mono e1)⟩) cx
  refine PySem.W.methodCall_KW (pl := pl) (thn (he' pins s I) fun u s1 ⟨v, H1, I1, rx, a, dx, fs, ex, ea, l, q⟩ => ?_) ht
  subst ex
  obtain rfl : u = Value.ref a := rx
  refine getmeth_ok I1 ea c hm l ?_
  exact PySem.W.callWith_K (first := [.ref a]) (h₀ := X.base) I.ok.mod.kin hm.kp (thn (q pos pins s1 I1) fun us s2 ⟨vs, H2, I2, r2, q2⟩ => ⟨I2.kIn, run_d (us := .ref a :: us) (vs := .ref a :: vs) F hr hgd hb hd tk I2 (.cons rfl r2) q2⟩) hst hpl⟩
theorem de_meth0 {pl : Sem Bool} (he : DE X W o ta) (c : Cls X.K C) (hm : Meth X.K C mn f) (F : FnD X.prog X.w X.K X.mg X.base k f fd ps d) (hr : Room k X.A) (hgd : X.A.guards = some []) (tk : Takes X W) (hb : Binds X.K fd ps ds) (hd : Vals dvs ds)
    (hy : ∀ G, RVs X.K G dvs dys) 
    (ht : eval (.Call (.Attribute o mn apos) [] [] pos) X.env = (eval o X.env >>= fun ov => standAt apos.atName >>= fun _ => holding [ov] (getMethod ov mn pl) >>= fun z =>
      callWith pos z.1 z.2 (backTo pos (starEach [] X.env)) (backToKw pos (keywordEach [] X.env))) := by rfl) :
    DE X W (.Call (.Attribute o mn apos) [] [] pos) (xMeth C mn d dys ta xNil) := ⟨fun {G r m σ H F' P Q} rs rh hx cv cx => fun pins s I => by
  have he' := he.run (Q := fun v H1 => ∃ a dx fs, v = V.ref a ∧ H1 a = some (.ins C dx fs) ∧ fs.lookup mn = none ∧ cz X.K d (.ref a :: dvs) H1 Q (WEx W σ)) rs rh hx (fun v y G1 m1 H1 e1 rh1 rv1 q1 => by
    obtain ⟨a, dx, gs, rfl, hma, hl, q⟩ := q1
    obtain ⟨fs, hH, hf⟩ := rh1.ins hma
    cases rv1.loc
    exact ⟨a, dx, fs, rfl, hH, RF.lookup_none hf hl, ⟨G1, m1, .l a :: dys, F', P, rh1, .cons (.l a) (hy G1), q, cv.mono e1, cx.mono e1⟩⟩) cx
  refine PySem.W.methodCall_KW (pl := pl) (thn (he' pins s I) fun u s1 ⟨v, H1, I1, rx, a, dx, fs, ex, ea, l, q⟩ => ?_) ht
  subst ex
  obtain rfl : u = Value.ref a := rx
  refine getmeth_ok I1 ea c hm l ?_
  exact PySem.W.callWith_K0 (first := [.ref a]) I1.kIn hm.kp (run_d (us := [.ref a]) (vs := [.ref a]) F hr hgd hb hd tk I1 (.cons rfl .nil) q)⟩

/-- C(..): a new instance, then __init__ -/
abbrev xMake (C : Addr) (d : DSp) (dys : List Y) (t : XA) : XE := fun r m F P => t r m (fun ys m1 => ∀ a dx, m1 a = none → d (.l a :: (ys ++ dys)) (mu m1 a (.ins C dx [])) (fun y m2 => y = .d .none ∧ F (.l a) m2) P) P
theorem make_guards {A : Around} {us : List Value} {kw : List (Str × Value)} (h : A.guards = some []) : (A.under (.builtin "type.__call__" ⟨.ref C :: us, kw⟩)).guards = some [] := by
  first
    | exact h
    | simp [Around.under, Code.guards, Code.isGuard, guardIds, pushGuards, h]
theorem de_make (M : Mk X.K C f) (F : FnD X.prog X.w X.K X.mg X.base k f fd ps d) (hr : Room (k + 1) X.A) (hgd : X.A.guards = some []) (tk : Takes X W) (hg : Gl X x) (hm : X.mg x = some (.ref C)) (hb : Binds X.K fd ps ds) (hd : Vals dvs ds)
    (hy : ∀ G, RVs X.K G dvs dys) (ha : DA X W (e :: es) t) (hdb : (x == ("__debug__" : Str)) = false := by decide) (he : starEach (e :: es) X.env = (false, eval e X.env) :: starEach es X.env := by rfl)
    (hpl : (backTo pos (starEach es X.env)).any (·.1) = false := by rfl) : DE X W (.Call (.Name x p) (e :: es) [] pos) (xMake C d dys t) := ⟨fun {G r m σ H F' P Q} rs rh hx cv cx => fun pins s I => by
  refine wpAny_Call_Name_kw (ld_glob I hg hm ?_ hdb)
  have ha' := ha.run (Q := fun vs H1 => ∀ a dx, H1 a = none → H1 dx = none → dx ≠ a → cz X.K d (.ref a :: (vs ++ dvs)) (upd (upd H1 dx (.own a)) a (.ins C dx [])) (fun v H2 => v = .non ∧ Q (.ref a) H2) (WEx W σ)) rs rh hx (fun vs ys G1 m1 H1 e1 rh1 rv1 q1 => fun a dx na ndx ne => by
    have f := rh1.free na
    have r1 : Rh X.K G1 m1 (upd H1 dx (.own a)) := ⟨fun b u q => by rw [upd_ne (ne_of_none (rh1.sub b u q) ndx)]; exact rh1.sub b u q, rh1.off, fun b u q => by
      obtain ⟨z, z1, z2⟩ := rh1.mem b u q
      exact ⟨z, by rw [upd_ne (ne_of_none z1 ndx)]; exact z1, z2⟩, rh1.tb.keep (Ex.refl _) (fun _ _ z => z) (fun _ _ z => z) (fun b o e _ => by rw [upd_ne (ne_of_none e ndx)]; exact e), rh1.nt⟩
    have r2 : Rh X.K G1 (mu m1 a (.ins C dx [])) (upd (upd H1 dx (.own a)) a (.ins C dx [])) := r1.new (by rw [upd_ne (Ne.symm ne)]; exact na) (.ins .nil)
    exact ⟨G1, _, .l a :: (ys ++ dys), fun y m2 => y = .d .none ∧ F' (.l a) m2, P, r2, .cons (.l a) (rv1.app (hy G1)), q1 a dx f.2,
      fun v y G2 m2 H2 e2 rh2 rv2 ⟨q2, q3⟩ => by subst q2; exact ⟨rv2.non, cv _ _ G2 m2 H2 (e1.trans e2) rh2 (.l a) q3⟩, cx.mono e1⟩) cx
  refine PySem.W.callWith_K (h₀ := X.base) I.ok.mod.kin M.kp (thn (ha' pos pins s I) fun us s1 ⟨vs, H1, I1, r1, q⟩ => ⟨I1.kIn, ?_⟩) he hpl
  have hq := q (s1.heap.objs.size + 1) s1.heap.objs.size (I1.hok.fresh (Nat.le_succ _)) (I1.hok.fresh (Nat.le_refl _)) (Nat.ne_of_lt (Nat.lt_succ_self _))
  have J := Inv.made (C := C) I1
  have rr : Vals (V.ref (s1.heap.objs.size + 1) :: (vs ++ dvs)) (Value.ref (s1.heap.objs.size + 1) :: (us ++ ds)) := .cons rfl (r1.append hd)
  have hl : (Value.ref (s1.heap.objs.size + 1) :: us ++ ds).length = ps.length := by
    obtain ⟨_, _, ys, _, _, _, z2, z3, _⟩ := id hq
    have z4 := F.len _ _ _ _ z3
    rw [← z2.length, rr.length] at z4
    exact z4
  refine wpAny_call (make_map (f := f) I1.kIn M.makes M.init (beq_iff_eq.mp M.fn) (codeAny_mono (F.run _ X.stack _ _ ⟨Value.ref (s1.heap.objs.size + 1) :: us, []⟩ (Value.ref (s1.heap.objs.size + 1) :: (us ++ ds)) _ _ (WEx W σ)
    (make_guards hgd) (hr.make C us []) (J.env0.make C us []) (hb _ (Value.ref (s1.heap.objs.size + 1) :: us) J.kIn hl) rr hq) fun z s' hz => ?_))
  match z, hz with
  | .error e, hz => exact passAt tk σ pins _ _ e s' J hz
  | .ok (.ret u), hz =>
    obtain ⟨v, H', I3, rv, ev, q3⟩ := J.after hz
    subst ev
    exact ⟨rv, ⟨V.ref (s1.heap.objs.size + 1), H', I3, rfl, q3⟩⟩
  | .ok .next, hz => exact False.elim hz
  | .ok .brk, hz => exact False.elim hz
  | .ok .cont, hz => exact False.elim hz⟩

/-! ### attributes -/
abbrev xFld (K : PySem.W.Frag) (ta : XE) (f : Str) : XE := fun r m F P => ta r m (fun y m1 => ∃ a C dx gs z, y = .l a ∧ m1 a = some (.ins C dx gs) ∧ Cls K C ∧ NoAttr K C f ∧ gs.lookup f = some z ∧ F z m1) P
theorem de_fld {fn : Str} (he : DE X W e ta) (hb : attributeBase e fn X.env (eval e X.env) = eval e X.env) : DE X W (.Attribute e fn pos) (xFld X.K ta fn) := ⟨fun {G r m σ H F P Q} rs rh hx cv cx =>
  se_of (pe_fld se_pe hb) (he.run rs rh hx (fun v y G1 m1 H1 e1 rh1 rv1 q1 => by
    obtain ⟨a, C, dx, gs, z, rfl, hm, hc, hn, hl, f⟩ := q1
    obtain ⟨fs, hH, hf⟩ := rh1.ins hm
    obtain ⟨u, hu, ru⟩ := RF.lookup hf hl
    exact ⟨a, C, dx, fs, u, rv1.loc, hH, hc, hn, hu, cv u z G1 m1 H1 e1 rh1 ru f⟩) cx)⟩
/-- a constant of the class -/
abbrev xCon (K : PySem.W.Frag) (ta : XE) (f : Str) : XE := fun r m F P => ta r m (fun y m1 => ∃ a C dx gs v u z, y = .l a ∧ m1 a = some (.ins C dx gs) ∧ Cls K C ∧ Con K C f v u ∧ gs.lookup f = none ∧ (∀ G, RV K G v z) ∧ F z m1) P
theorem de_con {fn : Str} (he : DE X W e ta) (hb : attributeBase e fn X.env (eval e X.env) = eval e X.env) : DE X W (.Attribute e fn pos) (xCon X.K ta fn) := ⟨fun {G r m σ H F P Q} rs rh hx cv cx =>
  se_of (pe_con se_pe hb) (he.run rs rh hx (fun v y G1 m1 H1 e1 rh1 rv1 q1 => by
    obtain ⟨a, C, dx, gs, v', u, z, rfl, hm, hc, hn, hl, hz, f⟩ := q1
    obtain ⟨fs, hH, hf⟩ := rh1.ins hm
    exact ⟨a, C, dx, fs, v', u, rv1.loc, hH, hc, hn, RF.lookup_none hf hl, cv v' z G1 m1 H1 e1 rh1 (hz G1) f⟩) cx)⟩
/-- a property -/
abbrev xProp (C : Addr) (d : DSp) (ta : XE) : XE := fun r m F P => ta r m (fun y m1 => ∃ a dx gs, y = .l a ∧ m1 a = some (.ins C dx gs) ∧ d [.l a] m1 F (fun _ _ _ => False)) P
theorem de_prop {pg : Addr} {fn : Str} (he : DE X W e ta) (c : Cls X.K C) (hp : PropOf X.K C fn pg f) (F : FnD X.prog X.w X.K X.mg X.base k f fd ps d) (hr : Room (k + 1) X.A) (hgd : X.A.guards = some []) (hb : Binds X.K fd ps [])
    (hab : attributeBase e fn X.env (eval e X.env) = eval e X.env) : DE X W (.Attribute e fn pos) (xProp C d ta) := ⟨fun {G r m σ H F' P Q} rs rh hx cv cx => fun pins s I => by
  have he' := he.run (Q := fun v H1 => ∃ a dx fs, v = V.ref a ∧ H1 a = some (.ins C dx fs) ∧ cz X.K d [.ref a] H1 Q E0) rs rh hx (fun v y G1 m1 H1 e1 rh1 rv1 q1 => by
    obtain ⟨a, dx, gs, rfl, hm, q⟩ := q1
    obtain ⟨fs, hH, hf⟩ := rh1.ins hm
    exact ⟨a, dx, fs, rv1.loc, hH, ⟨G1, m1, [.l a], F', _, rh1, .cons (.l a) .nil, q, cv.mono e1, fun _ _ _ _ _ _ _ _ _ z => z⟩⟩) cx
  refine attr_of hab (thn (he' pins s I) fun u s1 ⟨v, H1, I1, rx, a, dx, fs, ex, ea, q⟩ => ?_)
  subst ex
  obtain rfl : u = Value.ref a := rx
  obtain ⟨mA, O, _, _, _, _⟩ := ins_get I1.hok ea
  obtain ⟨od, J, _⟩ := O.look
  obtain ⟨rest, hrec⟩ := hp.rec_
  have I2 := I1.tok (s1.toks + 1)
  have hl : ([Value.ref a] ++ []).length = ps.length := by
    obtain ⟨_, _, ys, _, _, _, z2, z3, _⟩ := id q
    rw [← F.len _ _ _ _ z3, ← z2.length]
    rfl
  have hcs : (PySem.W.clsIn X.K C).isSome = true := by
    obtain ⟨cd, hc, _⟩ := PySem.W.any_some c.hd
    rw [hc]; rfl
  refine PySem.W.get_bind I1.kIn J (PySem.W.plainGet_of (c.get fn)).1 (PySem.W.findObj_data hcs hp.at_ hp.get hp.tak) (PySem.W.plainGet_of (c.get fn)).2 (wpAny_call (PySem.W.prop_get (s := { s1 with toks := s1.toks + 1 }) I1.kIn hrec ?_))
  refine codeAny_mono (F.run X.A.in1 X.stack { s1 with toks := s1.toks + 1 } H1 ⟨[.ref a], []⟩ [.ref a] [.ref a] Q E0 hgd hr.in1 I2.env0.in1 (hb _ [.ref a] I2.kIn hl) (.cons rfl .nil) q) fun z s' hz => ?_
  match z, hz with
  | .error er, hz => exact False.elim (passL (X := X.nox) pins σ H1 { s1 with toks := s1.toks + 1 } er s' (I2.wish _) hz)
  | .ok (.ret u), hz =>
    obtain ⟨v, H', I3, rv, q3⟩ := I2.after hz
    show wpAny _ _ (handedOut u) _ _ _
    rw [PySem.W.handedOut_of (handed_of rv)]
    exact wpAny_pure ⟨v, H', I3, rv, q3⟩
  | .ok .next, hz => exact False.elim hz
  | .ok .brk, hz => exact False.elim hz
  | .ok .cont, hz => exact False.elim hz⟩
end
end Dl
/-! D5: tests, built-in calls and methods. -/
namespace Dl
open PySem PySem.Spec PyProof.Rows L2 Evl

section
variable {X : Cx} {W : WX} {e a b c : Expr} {es rest : List Expr} {pos : Pos} {t ta tb tc : XE} {tt tA tB : XT} {K : PySem.W.Frag} {G H : Hp} {m : Mu}
/-! ### tests -/
abbrev xAnd (t u : XT) : XT := fun r m F P => t r m (fun k m1 => if k = true then u r m1 F P else F false m1) P
abbrev xOr (t u : XT) : XT := fun r m F P => t r m (fun k m1 => if k = true then F true m1 else u r m1 F P) P
abbrev xNot (t : XT) : XT := fun r m F P => t r m (fun k m1 => F (!k) m1) P
theorem DW.dt (h : DW X W e tt) : DT X W e tt := ⟨fun rs rh hx cv cx => fun pins s I => h.run rs rh hx cv cx _ pins s I⟩
theorem dw_and1 (h : DT X W a tt) : DW X W (.BoolOp .And [a] pos) tt := ⟨fun rs rh hx cv cx => sw_of (pw_and1 st_pt) (h.run rs rh hx cv cx)⟩
theorem dw_or1 (h : DT X W a tt) : DW X W (.BoolOp .Or [a] pos) tt := ⟨fun rs rh hx cv cx => sw_of (pw_or1 st_pt) (h.run rs rh hx cv cx)⟩
theorem dw_and (h1 : DT X W a tA) (h2 : DW X W (.BoolOp .And (b :: rest) pos) tB) : DW X W (.BoolOp .And (a :: b :: rest) pos) (xAnd tA tB) := ⟨fun {G r m σ H F P Q} rs rh hx cv cx =>
  sw_of (pw_and st_pt sw_pw) (h1.run rs rh hx (fun k G1 m1 H1 e1 rh1 q => by
    cases k with
    | true => exact h2.run (rs.mono e1) rh1 q (cv.mono e1) (cx.mono e1)
    | false => exact cv false G1 m1 H1 e1 rh1 q) cx)⟩
theorem dw_or (h1 : DT X W a tA) (h2 : DW X W (.BoolOp .Or (b :: rest) pos) tB) : DW X W (.BoolOp .Or (a :: b :: rest) pos) (xOr tA tB) := ⟨fun {G r m σ H F P Q} rs rh hx cv cx =>
  sw_of (pw_or st_pt sw_pw) (h1.run rs rh hx (fun k G1 m1 H1 e1 rh1 q => by
    cases k with
    | false => exact h2.run (rs.mono e1) rh1 q (cv.mono e1) (cx.mono e1)
    | true => exact cv true G1 m1 H1 e1 rh1 q) cx)⟩
theorem dt_not (h : DT X W a tA) : DT X W (.UnaryOp .Not a pos) (xNot tA) := ⟨fun {G r m σ H F P Q} rs rh hx cv cx =>
  st_of' (pt_not st_pt) (h.run rs rh hx (fun k G1 m1 H1 e1 rh1 q => cv (!k) G1 m1 H1 e1 rh1 q) cx)⟩
/-- truth -/
def truD : PyData → Option Bool
  | .none => some false | .bool b => some b | .int i => some (i != 0) | .str x => if x.length ≤ 10000 then some ((x.length : Int) != 0) else none
  | .list ds => some (!ds.isEmpty) | .tuple ds => some (!ds.isEmpty) | .dict es => none
def TruY (m : Mu) : Y → Bool → Prop
  | .d d, k => truD d = some k
  | .l p, k => ∃ ys, (m p = some (.lst ys) ∨ m p = some (.tup ys)) ∧ k = !ys.isEmpty
  | .r ds, k => k = !ds.isEmpty
  | .v _, _ => False
theorem emp_rvs {vs : List V} {ys : List Y} (q : RVs K G vs ys) : vs.isEmpty = ys.isEmpty := by cases q <;> rfl
theorem emp_das {vs : List V} {ds : List PyData} (q : DaAll K G vs ds) : vs.isEmpty = ds.isEmpty := by cases q <;> rfl
theorem truY_ok {v : V} {y : Y} {k : Bool} (rh : Rh K G m H) (rv : RV K G v y) (h : TruY m y k) : TruV K v H k := by
  cases rv with
  | d q =>
    cases q with
    | non => cases h; rfl
    | bl b => cases h; rfl
    | int i => cases h; rfl
    | str x =>
      have h' : (if x.length ≤ 10000 then some ((x.length : Int) != 0) else none) = some k := h
      by_cases z : x.length ≤ 10000
      · rw [if_pos z] at h'; cases h'; exact ⟨Nat.le_trans z szl, rfl⟩
      · rw [if_neg z] at h'; cases h'
    | lst r q => cases h; exact .inl ⟨_, .inl (rd_sub rh r), by rw [emp_das q]⟩
    | tup r q => cases h; exact .inr (.inl ⟨_, ex_t rh.sub r, by rw [emp_das q]⟩)
    | dic _ _ _ _ => cases h
  | l p =>
    obtain ⟨ys, h | h, e⟩ := h
    · obtain ⟨ws, e1, q⟩ := rh.lst h
      exact .inl ⟨ws, SqL.of e1, by rw [e, emp_rvs q]⟩
    · obtain ⟨ws, e1, q⟩ := rh.tup h
      exact .inr (.inl ⟨ws, SqT.of e1, by rw [e, emp_rvs q]⟩)
  | v x => exact h.elim
  | r s q => exact .inl ⟨_, ex_l rh.sub s, by rw [emp_das q]; exact h⟩
abbrev xTru (t : XE) : XT := fun r m F P => t r m (fun y m1 => ∃ k, TruY m1 y k ∧ F k m1) P
theorem dt_tru (h : DE X W e t) (he : ∀ wh, isTrue e X.env wh = (do let v ← wh; standAt e.pos; holding [v] (truthy v)) := by intro _; rfl) : DT X W e (xTru t) := ⟨fun {G r m σ H F P Q} rs rh hx cv cx =>
  st_of' (pt_truth se_pe he) (h.run rs rh hx (fun v y G1 m1 H1 e1 rh1 rv1 ⟨k, q1, q2⟩ => ⟨k, truY_ok rh1 rv1 q1, cv k G1 m1 H1 e1 rh1 q2⟩) cx)⟩
/-- .. as values -/
abbrev xAndV (ta tb : XE) : XE := fun r m F P => ta r m (fun y m1 => ∃ k, y = .d (.bool k) ∧ if k = true then tb r m1 F P else F (.d (.bool false)) m1) P
abbrev xOrV (ta tb : XE) : XE := fun r m F P => ta r m (fun y m1 => ∃ k, y = .d (.bool k) ∧ if k = true then F (.d (.bool true)) m1 else tb r m1 F P) P
abbrev xNotV (t : XE) : XE := fun r m F P => t r m (fun y m1 => ∃ k, TruY m1 y k ∧ F (.d (.bool (!k))) m1) P
theorem de_one {op} (h : DE X W a ta) : DE X W (.BoolOp op [a] pos) ta := ⟨fun rs rh hx cv cx => se_of (pe_one se_pe) (h.run rs rh hx cv cx)⟩
theorem de_and (h1 : DE X W a ta) (h2 : DE X W (.BoolOp .And (b :: rest) pos) tb) : DE X W (.BoolOp .And (a :: b :: rest) pos) (xAndV ta tb) := ⟨fun {G r m σ H F P Q} rs rh hx cv cx =>
  se_of (pe_and se_pe se_pe) (h1.run rs rh hx (fun v y G1 m1 H1 e1 rh1 rv1 ⟨k, q1, q2⟩ => by
    subst q1
    refine ⟨k, rv1.bl, ?_⟩
    cases k with
    | true => exact h2.run (rs.mono e1) rh1 q2 (cv.mono e1) (cx.mono e1)
    | false => exact cv _ _ G1 m1 H1 e1 rh1 (.d (.bl false)) q2) cx)⟩
theorem de_or (h1 : DE X W a ta) (h2 : DE X W (.BoolOp .Or (b :: rest) pos) tb) : DE X W (.BoolOp .Or (a :: b :: rest) pos) (xOrV ta tb) := ⟨fun {G r m σ H F P Q} rs rh hx cv cx =>
  se_of (pe_or se_pe se_pe) (h1.run rs rh hx (fun v y G1 m1 H1 e1 rh1 rv1 ⟨k, q1, q2⟩ => by
    subst q1
    refine ⟨k, rv1.bl, ?_⟩
    cases k with
    | false => exact h2.run (rs.mono e1) rh1 q2 (cv.mono e1) (cx.mono e1)
    | true => exact cv _ _ G1 m1 H1 e1 rh1 (.d (.bl true)) q2) cx)⟩
theorem de_not (h : DE X W a ta) : DE X W (.UnaryOp .Not a pos) (xNotV ta) := ⟨fun {G r m σ H F P Q} rs rh hx cv cx =>
  se_of (pe_notT se_pe) (h.run rs rh hx (fun v y G1 m1 H1 e1 rh1 rv1 ⟨k, q1, q2⟩ => ⟨k, truY_ok rh1 rv1 q1, cv _ _ G1 m1 H1 e1 rh1 (.d (.bl _)) q2⟩) cx)⟩
abbrev xIf (t : XT) (ta tb : XE) : XE := fun r m F P => t r m (fun k m1 => if k = true then ta r m1 F P else tb r m1 F P) P
theorem de_if (hc : DT X W c tt) (h1 : DE X W a ta) (h2 : DE X W b tb) : DE X W (.IfExp c a b pos) (xIf tt ta tb) := ⟨fun {G r m σ H F P Q} rs rh hx cv cx =>
  se_of (pe_ifExp st_pt se_pe se_pe) (hc.run rs rh hx (fun k G1 m1 H1 e1 rh1 q => by
    cases k with
    | true => exact h1.run (rs.mono e1) rh1 q (cv.mono e1) (cx.mono e1)
    | false => exact h2.run (rs.mono e1) rh1 q (cv.mono e1) (cx.mono e1)) cx)⟩
/-- a < b < c -/
abbrev xChain (x x' : XR) (ta tb tc : XE) : XE := fun r m F P => ta r m (fun y m1 => tb r m1 (fun z m2 => x y z m2 (fun u m3 => ∃ k, u = .d (.bool k) ∧ if k = true then tc r m3 (fun w m4 => x' z w m4 F) P else F (.d (.bool false)) m3)) P) P
theorem de_chain {op op' : CmpOp} {x x' : XR} (ho : OpD X (compareOp op) x) (ho' : OpD X (compareOp op') x') (h1 : DE X W a ta) (h2 : DE X W b tb) (h3 : DE X W c tc) (hm : lastMarks [op, op'] [b, c] = false := by with_unfolding_all rfl) :
    DE X W (.Compare a [op, op'] [b, c] pos) (xChain x x' ta tb tc) := ⟨fun {G r m σ H F P Q} rs rh hx cv cx => by
  obtain ⟨r1, g1, g2⟩ := ho
  obtain ⟨r2, g3, g4⟩ := ho'
  refine se_of (pe_chain g1 g3 se_pe se_pe se_pe hm) (h1.run rs rh hx (fun v y G1 m1 H1 e1 rh1 rv1 q1 =>
    h2.run (rs.mono e1) rh1 q1 (fun w z G2 m2 H2 e2 rh2 rv2 q2 => g2 rh2 (rv1.mono e2) rv2 q2 fun u x3 G3 m3 H3 e3 rh3 rv3 ⟨k, q3, q4⟩ => by
      subst q3
      refine ⟨k, rv3.bl, ?_⟩
      cases k with
      | true => exact h3.run (rs.mono ((e1.trans e2).trans e3)) rh3 q4 (fun w' x4 G4 m4 H4 e4 rh4 rv4 q5 => g4 rh4 (rv2.mono (e3.trans e4)) rv4 q5 (cv.mono (((e1.trans e2).trans e3).trans e4))) (cx.mono ((e1.trans e2).trans e3))
      | false => exact cv _ _ G3 m3 H3 ((e1.trans e2).trans e3) rh3 (.d (.bl false)) q4) (cx.mono e1)) cx)⟩

/-! ### built-in functions -/
abbrev XRC := List Y → Mu → (Y → Mu → Prop) → Prop
def CallD (X : Cx) (f : Value) (xr : XRC) : Prop := ∃ r, CallR X f r ∧
  ∀ {G : Hp} {m : Mu} {H : Hp} {vs : List V} {ys : List Y} {F : Y → Mu → Prop} {Q : VK}, Rh X.K G m H → RVs X.K G vs ys → xr ys m F → CvE X.K G F Q → r vs H Q
abbrev xCB (xr : XRC) (t : XA) : XE := fun r m F P => t r m (fun ys m1 => xr ys m1 F) P
theorem CallD.imp {f : Value} {x x' : XRC} (h : CallD X f x) (i : ∀ ys m F, x' ys m F → x ys m F) : CallD X f x' := by
  obtain ⟨r, h1, h2⟩ := h
  exact ⟨r, h1, fun rh rv hx cv => h2 rh rv (i _ _ _ hx) cv⟩
theorem CallD.or {f : Value} {x x' : XRC} (h : CallD X f x) (h' : CallD X f x') : CallD X f (fun ys m F => x ys m F ∨ x' ys m F) := by
  obtain ⟨r, h1, h2⟩ := h
  obtain ⟨r', h1', h2'⟩ := h'
  refine ⟨_, CallR.or h1 h1', fun rh rv hx cv => ?_⟩
  rcases hx with hx | hx
  · exact .inl (h2 rh rv hx cv)
  · exact .inr (h2' rh rv hx cv)
theorem de_cb {x : Str} {p : Pos} {id : String} {xr : XRC} {tx : XA} (hc : CallD X (.builtin id) xr) (hg : Gl X x) (hm : X.mg x = none) (hv : bootBuiltins x = some (.builtin id)) (ha : DA X W (e :: es) tx) (hn : x ≠ "__name__" := by decide) (hdb : (x == ("__debug__" : Str)) = false := by decide)
    (he : starEach (e :: es) X.env = (false, eval e X.env) :: starEach es X.env := by rfl) (hpl : (backTo pos (starEach es X.env)).any (·.1) = false := by rfl) : DE X W (.Call (.Name x p) (e :: es) [] pos) (xCB xr tx) := ⟨fun {G r m σ H F P Q} rs rh hx cv cx => by
  obtain ⟨r1, g1, g2⟩ := hc
  exact se_of (pe_callB g1 hg hm hv sa_pa hn hdb he hpl) (ha.run rs rh hx (fun vs ys G1 m1 H1 e1 rh1 rv1 q1 => g2 rh1 rv1 q1 (cv.mono e1)) cx)⟩
theorem de_cty {x : Str} {p : Pos} {T : String} {xr : XRC} {tx : XA} (hc : CallD X (.type T) xr) (hg : Gl X x) (hm : X.mg x = none) (hv : bootBuiltins x = some (.type T)) (ha : DA X W (e :: es) tx) (hn : x ≠ "__name__" := by decide) (hdb : (x == ("__debug__" : Str)) = false := by decide)
    (he : starEach (e :: es) X.env = (false, eval e X.env) :: starEach es X.env := by rfl) (hpl : (backTo pos (starEach es X.env)).any (·.1) = false := by rfl) : DE X W (.Call (.Name x p) (e :: es) [] pos) (xCB xr tx) := ⟨fun {G r m σ H F P Q} rs rh hx cv cx => by
  obtain ⟨r1, g1, g2⟩ := hc
  exact se_of (pe_callTy g1 hg hm hv sa_pa hn hdb he hpl) (ha.run rs rh hx (fun vs ys G1 m1 H1 e1 rh1 rv1 q1 => g2 rh1 rv1 q1 (cv.mono e1)) cx)⟩
theorem rvs1 {vs : List V} {y : Y} (h : RVs K G vs [y]) : ∃ v, vs = [v] ∧ RV K G v y := by
  cases h with
  | cons h t => cases t; exact ⟨_, rfl, h⟩
theorem rvs2 {vs : List V} {y z : Y} (h : RVs K G vs [y, z]) : ∃ v w, vs = [v, w] ∧ RV K G v y ∧ RV K G w z := by
  cases h with
  | cons h t =>
    cases t with
    | cons h2 t => cases t; exact ⟨_, _, rfl, h, h2⟩
abbrev xLen : XRC := fun ys m F => ∃ y zs, ys = [y] ∧ ((∃ x, y = .d (.str x) ∧ x.length ≤ 10000 ∧ zs.length = x.length) ∨ SqY m y zs) ∧ F (.d (.int zs.length)) m
theorem cd_len : CallD X (.builtin "len") xLen := ⟨_, call_len, fun {G m H vs ys F Q} rh rv hx cv => by
  obtain ⟨y, zs, rfl, hs, f⟩ := hx
  obtain ⟨v, rfl, rw⟩ := rvs1 rv
  refine ⟨v, zs.length, rfl, ?_, cv.at rh (.d (.int _)) f⟩
  rcases hs with ⟨x, rfl, hx, hl⟩ | hs
  · cases rw.str
    exact ⟨Nat.le_trans hx szl, hl⟩
  · obtain ⟨p, ws, rfl, s1, q⟩ := sqY_ok rh rw hs
    rcases s1 with s1 | s1
    · exact .inl ⟨ws, s1, q.length.symm⟩
    · exact .inr ⟨ws, s1, q.length.symm⟩⟩
/-- tuple(..) of a sequence: a new one of a list, itself of a tuple -/
abbrev xTupOf : XRC := fun ys m F => ∃ y, ys = [y] ∧ ((∃ ds, y = .d (.tuple ds) ∧ F y m) ∨ ∃ zs, LsY m y zs ∧ mkT zs m F)
theorem cd_tuple : CallD X (.type "tuple") xTupOf := ⟨_, call_tuple_of, fun {G m H vs ys F Q} rh rv hx cv => by
  obtain ⟨y, rfl, hs⟩ := hx
  obtain ⟨v, rfl, rw⟩ := rvs1 rv
  rcases hs with ⟨ds, rfl, f⟩ | ⟨zs, hs, f⟩
  · obtain ⟨p, ws, rfl, s1, q⟩ := rw.tup
    exact ⟨p, ws, rfl, .inr ⟨ex_t rh.sub s1, cv.at rh rw f⟩⟩
  · obtain ⟨p, ws, rfl, s1, q⟩ := lsY_ok rh rw hs
    exact ⟨p, ws, rfl, .inl ⟨.inl s1, fun l hl => mkT_ok rh q hl f cv⟩⟩⟩
/-- list(..): data -/
abbrev xListOf : XRC := fun ys m F => ∃ y ds, ys = [y] ∧ SqY m y (ds.map Y.d) ∧ F (.d (.list ds)) m
theorem cd_list : CallD X (.type "list") xListOf := ⟨_, call_list_of, fun {G m H vs ys F Q} rh rv hx cv => by
  obtain ⟨y, ds, rfl, hs, f⟩ := hx
  obtain ⟨v, rfl, rw⟩ := rvs1 rv
  obtain ⟨p, ws, rfl, s1, q⟩ := sqY_ok rh rw hs
  exact ⟨p, ws, rfl, s1, fun l hl => lstD_ok rh q hl f cv⟩⟩
abbrev xMax2 : XRC := fun ys m F => ∃ i j, ys = [.d (.int i), .d (.int j)] ∧ F (.d (.int (if j > i then j else i))) m
theorem cd_max2 (hc : X.calm = true) : CallD X (.builtin "max") xMax2 := ⟨_, call_max2 hc, fun {G m H vs ys F Q} rh rv hx cv => by
  obtain ⟨i, j, rfl, f⟩ := hx
  obtain ⟨v, w, rfl, r1, r2⟩ := rvs2 rv
  exact ⟨i, j, by rw [r1.int, r2.int], cv.at rh (.d (.int _)) f⟩⟩
abbrev xMin2 : XRC := fun ys m F => ∃ i j, ys = [.d (.int i), .d (.int j)] ∧ F (.d (.int (if j < i then j else i))) m
theorem cd_min2 (hc : X.calm = true) : CallD X (.builtin "min") xMin2 := ⟨_, call_min2 hc, fun {G m H vs ys F Q} rh rv hx cv => by
  obtain ⟨i, j, rfl, f⟩ := hx
  obtain ⟨v, w, rfl, r1, r2⟩ := rvs2 rv
  exact ⟨i, j, by rw [r1.int, r2.int], cv.at rh (.d (.int _)) f⟩⟩
theorem ints_rvs : ∀ {vs : List V} {ns : List Int}, DaAll K G vs (ns.map PyData.int) → vs = ns.map V.int
  | [], [], .nil => rfl
  | _ :: _, _ :: _, .cons h t => by cases h; rw [List.map_cons, ints_rvs t]
theorem bls_rvs : ∀ {vs : List V} {ns : List Bool}, DaAll K G vs (ns.map PyData.bool) → vs = ns.map V.bl
  | [], [], .nil => rfl
  | _ :: _, _ :: _, .cons h t => by cases h; rw [List.map_cons, bls_rvs t]
abbrev xSum : XRC := fun ys m F => ∃ (y : Y) (ns : List Int), ys = [y] ∧ LsY m y ((ns.map PyData.int).map Y.d) ∧ F (.d (.int ns.sum)) m
theorem cd_sum (hc : X.calm = true) : CallD X (.builtin "sum") xSum := ⟨_, cr_sum hc, fun {G m H vs ys F Q} rh rv hx cv => by
  obtain ⟨y, ns, rfl, hs, f⟩ := hx
  obtain ⟨v, rfl, rw⟩ := rvs1 rv
  obtain ⟨p, ws, rfl, s1, q⟩ := lsY_ok rh rw hs
  exact ⟨p, ns, rfl, by rw [← ints_rvs (RVs.das q)]; exact .inl s1, cv.at rh (.d (.int _)) f⟩⟩
abbrev xAll : XRC := fun ys m F => ∃ (y : Y) (ns : List Bool), ys = [y] ∧ LsY m y ((ns.map PyData.bool).map Y.d) ∧ F (.d (.bool (ns.all id))) m
theorem cd_all (hc : X.calm = true) : CallD X (.builtin "all") xAll := ⟨_, cr_all hc, fun {G m H vs ys F Q} rh rv hx cv => by
  obtain ⟨y, ns, rfl, hs, f⟩ := hx
  obtain ⟨v, rfl, rw⟩ := rvs1 rv
  obtain ⟨p, ws, rfl, s1, q⟩ := lsY_ok rh rw hs
  exact ⟨p, ns, rfl, by rw [← bls_rvs (RVs.das q)]; exact .inl s1, cv.at rh (.d (.bl _)) f⟩⟩
abbrev xAny : XRC := fun ys m F => ∃ (y : Y) (ns : List Bool), ys = [y] ∧ LsY m y ((ns.map PyData.bool).map Y.d) ∧ F (.d (.bool (ns.any id))) m
theorem cd_any (hc : X.calm = true) : CallD X (.builtin "any") xAny := ⟨_, cr_any hc, fun {G m H vs ys F Q} rh rv hx cv => by
  obtain ⟨y, ns, rfl, hs, f⟩ := hx
  obtain ⟨v, rfl, rw⟩ := rvs1 rv
  obtain ⟨p, ws, rfl, s1, q⟩ := lsY_ok rh rw hs
  exact ⟨p, ns, rfl, by rw [← bls_rvs (RVs.das q)]; exact .inl s1, cv.at rh (.d (.bl _)) f⟩⟩
/-- isinstance(x, T), T a built-in class -/
def tyD : PyData → String
  | .none => "NoneType" | .bool _ => "bool" | .int _ => "int" | .str _ => "str" | .list _ => "list" | .tuple _ => "tuple" | .dict _ => "dict"
theorem tyX_ok {v : V} {d : PyData} (rh : Rh K G m H) (h : Da K G v d) : TyX K H v (.type (tyD d)) := by
  cases h with
  | non => exact .base .non
  | bl b => exact .base (.bl b)
  | int i => exact .base (.int i)
  | str x => exact .base (.str x)
  | lst r q =>
    rcases r with r | ⟨o, r⟩
    · exact .base (.lst (rh.sub _ _ r))
    · exact .base (.frz (rh.sub _ _ r))
  | tup r q =>
    rcases r with (r | ⟨o, r⟩) | ⟨o, its, n, hk, hc, _⟩
    · exact .base (.tup (rh.sub _ _ r))
    · exact .fTuple (rh.sub _ _ r)
    · exact .kTuple hk hc
  | dic r _ _ _ =>
    rcases r with r | ⟨o, r⟩
    · exact .base (.dK (rh.sub _ _ r))
    · exact .fDict (rh.sub _ _ r)
abbrev xIsi (K : PySem.W.Frag) : XRC := fun ys m F => ∃ d n b, ys = [.d d, .v (.ty n)] ∧ PySem.W.kitOne K (.type (tyD d)) (.type n) = some b ∧ F (.d (.bool b)) m
theorem cd_isi : CallD X (.builtin "isinstance") (xIsi X.K) := ⟨_, call_isi, fun {G m H vs ys F Q} rh rv hx cv => by
  obtain ⟨d, n, b, rfl, e, f⟩ := hx
  obtain ⟨v, w, rfl, r1, r2⟩ := rvs2 rv
  cases r2
  exact ⟨v, .ty n, .type (tyD d), .type n, b, rfl, .ty n, tyX_ok rh r1.da, e, cv.at rh (.d (.bl b)) f⟩⟩
abbrev xStrI : XRC := fun ys m F => ∃ i, ys = [.d (.int i)] ∧ i.natAbs.log2 < 1920 ∧ F (.d (.str (toString i))) m
theorem cd_str : CallD X (.type "str") xStrI := ⟨_, call_str_int, fun {G m H vs ys F Q} rh rv hx cv => by
  obtain ⟨i, rfl, hi, f⟩ := hx
  obtain ⟨v, rfl, r1⟩ := rvs1 rv
  exact ⟨i, by rw [r1.int], hi, cv.at rh (.d (.str _)) f⟩⟩
end
end Dl
/-! D6: statements, targets, what is walked, comprehensions, a def by its body. -/
namespace Dl
open PySem PySem.Spec PyProof.Rows L2 Evl

/-! ### meanings -/
section
variable (X : Cx)
def SG (tg : Expr) : TG := fun v σ H Q => ∀ (pins : List (Addr × Obj)) (s : Shared) (u : Value), Inv X pins σ H s → RelV v u → wpAny (model X.prog X.w) X.A (assign tg X.env u) (fun _ s' => ∃ σ' H', Inv X pins σ' H' s' ∧ Q σ' H') X.xe s
def SGs (ts : List Expr) : TGs := fun vs σ H Q => ∀ (pins : List (Addr × Obj)) (s : Shared) (us : List Value), Inv X pins σ H s → Vals vs us → wpAny (model X.prog X.w) X.A (assignInOrder ((assignEach ts X.env).map (·.2)) us) (fun _ s' => ∃ σ' H', Inv X pins σ' H' s' ∧ Q σ' H') X.xe s
def SI (tg it : Expr) : TI := fun σ H R => ∀ (pins : List (Addr × Obj)) (s : Shared), Inv X pins σ H s → wpAny (model X.prog X.w) X.A (eval it X.env) (fun v s1 => wpAny (model X.prog X.w) X.A (pyIter v) (PIE X pins σ tg R) X.xe s1) X.xe s
def SSt (st : Stmt) : TS := fun D σ H => ∀ (pins : List (Addr × Obj)) (s : Shared), Inv X pins σ H s → wpAny (model X.prog X.w) X.A (exec st X.env) (SP X pins D) X.xe s
def SSts (st : List Stmt) : TS := fun D σ H => ∀ (pins : List (Addr × Obj)) (s : Shared), Inv X pins σ H s → wpAny (model X.prog X.w) X.A (execs st X.env) (SP X pins D) X.xe s
end
section
variable {X : Cx} {e tg it : Expr} {ts : List Expr} {st : Stmt} {sts : List Stmt} {σ : L2.St} {H : Hp}
theorem sg_pg : PG X tg (SG X tg) := ⟨fun pins s _ _ _ u _ I r h => h pins s u I r⟩
theorem sgs_pgs : PGs X ts (SGs X ts) := ⟨fun pins s _ _ _ us _ I r h => h pins s us I r⟩
theorem si_pi : PI X tg it (SI X tg it) := ⟨fun pins s _ _ _ I h => h pins s I⟩
theorem ss_ps : PS X st (SSt X st) := ⟨fun pins s _ _ _ I h => h pins s I⟩
theorem sss_pss : PSs X sts (SSts X sts) := ⟨fun pins s _ _ _ I h => h pins s I⟩
theorem sg_of {t : TG} {v : V} {Q : L2.St → Hp → Prop} (h : PG X tg t) (q : t v σ H Q) : SG X tg v σ H Q := fun pins s u I r => h.run pins s σ H v u Q I r q
theorem sgs_of {t : TGs} {v : List V} {Q : L2.St → Hp → Prop} (h : PGs X ts t) (q : t v σ H Q) : SGs X ts v σ H Q := fun pins s u I r => h.run pins s σ H v u Q I r q
theorem si_of {t : TI} {R : It → Hp → Prop} (h : PI X tg it t) (q : t σ H R) : SI X tg it σ H R := fun pins s I => h.run pins s σ H R I q
theorem ss_of {t : TS} {D : Ends} (h : PS X st t) (q : t D σ H) : SSt X st D σ H := fun pins s I => h.run pins s σ H D I q
theorem sss_of {t : TS} {D : Ends} (h : PSs X sts t) (q : t D σ H) : SSts X sts D σ H := fun pins s I => h.run pins s σ H D I q
end

/-! ### ends -/
abbrev XPr := Value → List (Str × Y) → Ro → Mu → Prop
structure DEnds where
  nx : Ro → Mu → Prop
  rt : Y → Mu → Prop
  bk : Ro → Mu → Prop := fun _ _ => False
  ct : Ro → Mu → Prop := fun _ _ => False
  ex : XPr := fun _ _ _ _ => False
abbrev DEnds.at (D : DEnds) (r : Ro) : XP := fun c fs m => D.ex c fs r m
abbrev XS := DEnds → Ro → Mu → Prop
structure Fits (K : PySem.W.Frag) (W : WX) (G : Hp) (D : DEnds) (E : Ends) : Prop where
  nx : ∀ σ r G' m H, Ex G G' → Rs K G' σ r → Rh K G' m H → D.nx r m → E.nx σ H
  rt : ∀ v y G' m H, Ex G G' → Rh K G' m H → RV K G' v y → D.rt y m → E.rt v H
  bk : ∀ σ r G' m H, Ex G G' → Rs K G' σ r → Rh K G' m H → D.bk r m → E.bk σ H
  ct : ∀ σ r G' m H, Ex G G' → Rs K G' σ r → Rh K G' m H → D.ct r m → E.ct σ H
  ex : ∀ cls d fs σ r G' m H, Ex G G' → Rs K G' σ r → Rh K G' m H → XF K G' H d fs → D.ex cls fs r m → W cls d σ H
section
variable {K : PySem.W.Frag} {W : WX} {G G' : Hp} {D : DEnds} {E : Ends}
theorem Fits.mono (e : Ex G G') (f : Fits K W G D E) : Fits K W G' D E :=
  ⟨fun σ r G1 m H e1 => f.nx σ r G1 m H (e.trans e1), fun v y G1 m H e1 => f.rt v y G1 m H (e.trans e1), fun σ r G1 m H e1 => f.bk σ r G1 m H (e.trans e1),
    fun σ r G1 m H e1 => f.ct σ r G1 m H (e.trans e1), fun c d fs σ r G1 m H e1 => f.ex c d fs σ r G1 m H (e.trans e1)⟩
theorem Fits.cx {σ : L2.St} {r : Ro} (f : Fits K W G D E) (rs : Rs K G σ r) : CvX K G (D.at r) (WEx W σ) := fun c d fs G1 m H e1 rh xf h => f.ex c d fs σ r G1 m H e1 (rs.mono e1) rh xf h
theorem Fits.nx_of {nx : Ro → Mu → Prop} {nE : L2.St → Hp → Prop} (f : Fits K W G D E) (h : ∀ σ r G' m H, Ex G G' → Rs K G' σ r → Rh K G' m H → nx r m → nE σ H) : Fits K W G { D with nx := nx } { E with nx := nE } :=
  ⟨h, f.rt, f.bk, f.ct, f.ex⟩
end
structure DS (X : Cx) (W : WX) (st : Stmt) (t : XS) : Prop where
  run : ∀ {G : Hp} {r : Ro} {m : Mu} {σ : L2.St} {H : Hp} {D : DEnds} {E : Ends}, Rs X.K G σ r → Rh X.K G m H → t D r m → Fits X.K W G D E → SSt X st E σ H
structure DSs (X : Cx) (W : WX) (sts : List Stmt) (t : XS) : Prop where
  run : ∀ {G : Hp} {r : Ro} {m : Mu} {σ : L2.St} {H : Hp} {D : DEnds} {E : Ends}, Rs X.K G σ r → Rh X.K G m H → t D r m → Fits X.K W G D E → SSts X sts E σ H
/-- targets -/
abbrev XG := Y → Ro → Mu → (Ro → Mu → Prop) → Prop
abbrev XGs := List Y → Ro → Mu → (Ro → Mu → Prop) → Prop
def CvG (K : PySem.W.Frag) (G : Hp) (F : Ro → Mu → Prop) (Q : L2.St → Hp → Prop) : Prop := ∀ σ r G' m H, Ex G G' → Rs K G' σ r → Rh K G' m H → F r m → Q σ H
theorem CvG.mono {K : PySem.W.Frag} {G G' : Hp} {F : Ro → Mu → Prop} {Q : L2.St → Hp → Prop} (e : Ex G G') (c : CvG K G F Q) : CvG K G' F Q := fun σ r G1 m H e1 => c σ r G1 m H (e.trans e1)
structure DG (X : Cx) (tg : Expr) (g : XG) : Prop where
  run : ∀ {G : Hp} {r : Ro} {m : Mu} {σ : L2.St} {H : Hp} {v : V} {y : Y} {F : Ro → Mu → Prop} {Q : L2.St → Hp → Prop}, Rs X.K G σ r → Rh X.K G m H → RV X.K G v y → g y r m F → CvG X.K G F Q → SG X tg v σ H Q
structure DGs (X : Cx) (ts : List Expr) (g : XGs) : Prop where
  run : ∀ {G : Hp} {r : Ro} {m : Mu} {σ : L2.St} {H : Hp} {vs : List V} {ys : List Y} {F : Ro → Mu → Prop} {Q : L2.St → Hp → Prop}, Rs X.K G σ r → Rh X.K G m H → RVs X.K G vs ys → g ys r m F → CvG X.K G F Q → SGs X ts vs σ H Q

section
variable {X : Cx} {W : WX} {e a b c o i tg : Expr} {es ts rest : List Expr} {st : Stmt} {sts : List Stmt} {pos : Pos} {t ta tb tc to ti : XE} {tt : XT} {u u' : XS} {g : XG} {gs : XGs} {K : PySem.W.Frag}
/-! ### targets -/
abbrev xgName (i : Nat) : XG := fun y r m F => F (r.set i (some y)) m
theorem dg_name {i : Nat} {x : Str} (hN : X.N.Nodup) (hi : X.N[i]? = some x) (hx : Loc X.env.scope x) (hf : X.fn x = true ∨ X.env.scope.names.lookup x = some .local := by first | exact .inl rfl | exact .inr rfl | assumption) : DG X (.Name x pos) (xgName i) :=
  ⟨fun {G r m σ H v y F Q} rs rh rv hx' cv => sg_of (pg_name hN hi hx hf) (cv _ _ G m H (Ex.refl G) (rs.set rv i) rh hx')⟩
abbrev xgNil : XGs := fun ys r m F => ys = [] ∧ F r m
abbrev xgCons (g : XG) (gs : XGs) : XGs := fun ys r m F => ∃ y zs, ys = y :: zs ∧ g y r m (fun r1 m1 => gs zs r1 m1 F)
theorem dgs_nil : DGs X [] xgNil := ⟨fun {G r m σ H vs ys F Q} rs rh rv ⟨e, h⟩ cv => by
  subst e; cases rv
  exact sgs_of pgs_nil ⟨rfl, cv _ _ G m H (Ex.refl G) rs rh h⟩⟩
theorem dgs_cons (h1 : DG X e g) (h2 : DGs X es gs) (hs : (assignEach (e :: es) X.env).map (·.2) = assign e X.env :: (assignEach es X.env).map (·.2) := by rfl) : DGs X (e :: es) (xgCons g gs) := ⟨fun {G r m σ H vs ys F Q} rs rh rv ⟨y, zs, e1, h⟩ cv => by
  subst e1
  cases rv with
  | cons r1 r2 => exact sgs_of (pgs_cons sg_pg sgs_pgs hs) ⟨_, _, rfl, h1.run rs rh r1 h fun σ1 r3 G1 m1 H1 e1 rs1 rh1 q => h2.run rs1 rh1 (RVs.mono e1 r2) q (cv.mono e1)⟩⟩
abbrev xgTup (n : Nat) (gs : XGs) : XG := fun y r m F => ∃ ys, SqY m y ys ∧ (∀ ds, y ≠ .d (.list ds)) ∧ (∀ p, y = .l p → m p = some (.tup ys)) ∧ (∀ ds, y ≠ .r ds) ∧ ys.length = n ∧ gs ys r m F
theorem dg_tup {k n : Nat} (hc : X.calm = true) (h : DGs X es gs) (hn : (assignEach es X.env).length = n := by rfl) (hst : (assignEach es X.env).findIdx? (·.1) = none := by rfl) : DG X (.Tuple es k pos) (xgTup n gs) := ⟨fun {G r m σ H v y F Q} rs rh rv ⟨ys, h1, h2, h3, h4, h5, h6⟩ cv => by
  have z : ∃ p vs, v = .ref p ∧ SqT X.K H p vs ∧ RVs X.K G vs ys := by
    cases rv with
    | d q =>
      cases q with
      | tup s q => cases h1; exact ⟨_, _, rfl, ex_t rh.sub s, q.rvs⟩
      | lst s q => exact absurd rfl (h2 _)
      | _ => exact h1.elim
    | l p =>
      obtain ⟨ws, e, q⟩ := rh.tup (h3 p rfl)
      exact ⟨p, ws, rfl, SqT.of e, q⟩
    | v x => exact h1.elim
    | r s q => exact absurd rfl (h4 _)
  obtain ⟨p, vs, rfl, s1, q⟩ := z
  exact sg_of (pg_tup hc sgs_pgs hn hst) ⟨p, vs, rfl, s1, by rw [q.length]; exact h5, h.run rs rh q h6 cv⟩⟩
/-- xs[i] = .. -/
abbrev xgSub (to ti : XE) : XG := fun v r m F => to r m (fun y m1 => ti r m1 (fun z m2 => ∃ p ys k j, y = .l p ∧ z = .d (.int k) ∧ m2 p = some (.lst ys) ∧ ixN ys.length k = some j ∧ F r (mu m2 p (.lst (ys.set j v)))) (fun _ _ _ => False)) (fun _ _ _ => False)
theorem cx_no {σ : L2.St} {G : Hp} : CvX K G (fun _ _ _ => False) (WEx W σ) := fun _ _ _ _ _ _ _ _ _ h => h.elim
theorem dg_sub (ho : DE X W o to) (hi : DE X W i ti) (ha : ∀ v, assign (.Subscript o i pos) X.env v = (holding [v] (eval o X.env) >>= fun ov => holding [v, ov] (eval i X.env) >>= fun iv => standAt pos >>= fun _ => holding [v, ov, iv] (setItem ov iv v) >>= fun _ => release [v, ov, iv] []) := by intro _; rfl) :
    DG X (.Subscript o i pos) (xgSub to ti) := ⟨fun {G r m σ H v y F Q} rs rh rv h cv =>
  sg_of (pg_sub se_pe se_pe set_list ha) (ho.run (W := W) rs rh h (fun v1 y1 G1 m1 H1 e1 rh1 rv1 q1 =>
    hi.run (rs.mono e1) rh1 q1 (fun v2 y2 G2 m2 H2 e2 rh2 rv2 ⟨p, ys, k, j, q3, q4, q5, q6, q7⟩ => by
      subst q3 q4
      cases rv1.loc
      obtain ⟨ws, e5, q8⟩ := rh2.lst q5
      exact ⟨p, ws, k, j, rfl, rv2.int, e5, by rw [q8.length]; exact q6, cv _ _ G2 _ _ (e1.trans e2) (rs.mono (e1.trans e2)) (rh2.write q5 (.lst (RVs.set (rv.mono (e1.trans e2)) j q8))) q7⟩) cx_no) cx_no)⟩

/-! ### blocks -/
abbrev xNext : XS := fun D r m => D.nx r m
abbrev xSeq (t u : XS) : XS := fun D r m => t { D with nx := u D } r m
theorem dss_nil : DSs X W [] xNext := ⟨fun {G r m σ H D E} rs rh h f => sss_of pss_nil (f.nx _ _ G m H (Ex.refl G) rs rh h)⟩
theorem dss_cons (h1 : DS X W st u) (h2 : DSs X W sts u') : DSs X W (st :: sts) (xSeq u u') := ⟨fun {G r m σ H D E} rs rh h f =>
  sss_of (pss_cons ss_ps sss_pss) (h1.run (D := { D with nx := u' D }) rs rh h (f.nx_of fun σ1 r1 G1 m1 H1 e1 rs1 rh1 q => h2.run rs1 rh1 q (f.mono e1)))⟩
theorem dss_one (h1 : DS X W st u) : DSs X W [st] u := ⟨fun {G r m σ H D E} rs rh h f => sss_of (pss_one ss_ps) (h1.run rs rh h f)⟩
theorem ds_pass : DS X W (.Pass pos) xNext := ⟨fun {G r m σ H D E} rs rh h f => ss_of ps_pass (f.nx _ _ G m H (Ex.refl G) rs rh h)⟩
abbrev xBreak : XS := fun D r m => D.bk r m
abbrev xCont : XS := fun D r m => D.ct r m
theorem ds_break : DS X W (.Break pos) xBreak := ⟨fun {G r m σ H D E} rs rh h f => ss_of ps_break (f.bk _ _ G m H (Ex.refl G) rs rh h)⟩
theorem ds_cont : DS X W (.Continue pos) xCont := ⟨fun {G r m σ H D E} rs rh h f => ss_of ps_continue (f.ct _ _ G m H (Ex.refl G) rs rh h)⟩
abbrev xDrop (t : XE) : XS := fun D r m => t r m (fun _ m1 => D.nx r m1) (D.at r)
theorem ds_expr (h : DE X W e t) (hs : swapsWith e none pos.line X.env = pure false := by rfl) : DS X W (.Expr e pos) (xDrop t) := ⟨fun {G r m σ H D E} rs rh hx f =>
  ss_of (ps_expr se_pe hs) (h.run rs rh hx (fun v y G1 m1 H1 e1 rh1 rv1 q => f.nx _ _ G1 m1 H1 e1 (rs.mono e1) rh1 q) (f.cx rs))⟩
abbrev xRet (t : XE) : XS := fun D r m => t r m D.rt (D.at r)
theorem ds_ret (h : DE X W e t) : DS X W (.Return (some e) pos) (xRet t) := ⟨fun {G r m σ H D E} rs rh hx f =>
  ss_of (ps_ret se_pe) (h.run rs rh hx (fun v y G1 m1 H1 e1 rh1 rv1 q => f.rt v y G1 m1 H1 e1 rh1 rv1 q) (f.cx rs))⟩
abbrev xRetN : XS := fun D _ m => D.rt (.d .none) m
theorem ds_retN : DS X W (.Return none pos) xRetN := ⟨fun {G r m σ H D E} rs rh hx f => ss_of ps_retN (f.rt _ _ G m H (Ex.refl G) rh (.d .non) hx)⟩
abbrev xIfS (c : XT) (t u : XS) : XS := fun D r m => c r m (fun k m1 => if k = true then t D r m1 else u D r m1) (D.at r)
theorem ds_if {sa sb : List Stmt} (hc : DT X W c tt) (ha : DSs X W sa u) (hb : DSs X W sb u') : DS X W (.If c sa sb pos) (xIfS tt u u') := ⟨fun {G r m σ H D E} rs rh hx f =>
  ss_of (ps_if st_pt sss_pss sss_pss) (hc.run rs rh hx (fun k G1 m1 H1 e1 rh1 q => by
    cases k with
    | true => exact ha.run (rs.mono e1) rh1 q (f.mono e1)
    | false => exact hb.run (rs.mono e1) rh1 q (f.mono e1)) (f.cx rs))⟩
abbrev xNever : XS := fun _ _ _ => False
theorem ds_never : DS X W st xNever := ⟨fun _ _ h _ => h.elim⟩
theorem dss_never : DSs X W sts xNever := ⟨fun _ _ h _ => h.elim⟩
abbrev xAsg (t : XE) (g : XG) : XS := fun D r m => t r m (fun y m1 => g y r m1 D.nx) (D.at r)
theorem ds_asg (he : DE X W e t) (hg : DG X tg g) (hs : swapsWithSole [tg] e pos.line X.env = pure false := by rfl) (hw : swappedStores [tg] e X.env = pure none := by rfl)
    (h1 : (assignEach [tg] X.env).map (·.2) = [assign tg X.env] := by rfl) : DS X W (.Assign [tg] e pos) (xAsg t g) := ⟨fun {G r m σ H D E} rs rh hx f =>
  ss_of (ps_asg se_pe sg_pg hs hw h1) (he.run rs rh hx (fun v y G1 m1 H1 e1 rh1 rv1 q => hg.run (rs.mono e1) rh1 rv1 q (fun σ2 r2 G2 m2 H2 e2 rs2 rh2 q2 => f.nx _ _ G2 m2 H2 (e1.trans e2) rs2 rh2 q2)) (f.cx rs))⟩
theorem ds_set {i : Nat} {x : Str} {pos' : Pos} (hN : X.N.Nodup) (hi : X.N[i]? = some x) (hx : Loc X.env.scope x) (he : DE X W e t) (hs : swapsWith e (some (.Name x pos')) pos.line X.env = pure false := by rfl) (hf : X.fn x = true ∨ X.env.scope.names.lookup x = some .local := by first | exact .inl rfl | exact .inr rfl | assumption) :
    DS X W (.Assign [.Name x pos'] e pos) (xAsg t (xgName i)) := ⟨fun {G r m σ H D E} rs rh hx' f =>
  ss_of (ps_set hN hi hx se_pe hs hf) (he.run rs rh hx' (fun v y G1 m1 H1 e1 rh1 rv1 q => f.nx _ _ G1 m1 H1 e1 ((rs.mono e1).set rv1 i) rh1 q) (f.cx rs))⟩
abbrev xPar (i j : Nat) (ta : XA) : XS := fun D r m => ta r m (fun ys m1 => ∃ y z, ys = [y, z] ∧ D.nx ((r.set i (some y)).set j (some z)) m1) (D.at r)
theorem ds_par {i j : Nat} {x y : Str} {tx : XA} {px py pt : Pos} {kt k2 pt2} (hc : X.calm = true) (hN : X.N.Nodup) (hi : X.N[i]? = some x) (hj : X.N[j]? = some y) (hij : i ≠ j)
    (hx : X.env.scope.names.lookup x = some .local) (hy : X.env.scope.names.lookup y = some .local) (ha : DA X W [a, b] tx)
    (hw : swappedStores [.Tuple [.Name x px, .Name y py] kt pt] (.Tuple [a, b] k2 pt2) X.env = pure (some [x, y]))
    (hs : swapsWithSole [.Tuple [.Name x px, .Name y py] kt pt] (.Tuple [a, b] k2 pt2) pos.line X.env = pure false := by rfl) :
    DS X W (.Assign [.Tuple [.Name x px, .Name y py] kt pt] (.Tuple [a, b] k2 pt2) pos) (xPar i j tx) := ⟨fun {G r m σ H D E} rs rh hx' f =>
  ss_of (ps_par hc hN hi hj hij hx hy sa_pa hw hs) (ha.run rs rh hx' (fun vs ys G1 m1 H1 e1 rh1 rv1 ⟨y1, z1, q, q2⟩ => by
    subst q
    obtain ⟨v, w, rfl, r1, r2⟩ := rvs2 rv1
    exact ⟨v, w, rfl, f.nx _ _ G1 m1 H1 e1 (((rs.mono e1).set r1 i).set r2 j) rh1 q2⟩) (f.cx rs))⟩
/-- del xs[i] -/
abbrev xDel (to ti : XE) : XS := fun D r m => to r m (fun y m1 => ti r m1 (fun z m2 => ∃ p ys k j, y = .l p ∧ z = .d (.int k) ∧ m2 p = some (.lst ys) ∧ -(2 ^ 63) ≤ k ∧ k < 2 ^ 63 ∧ seqIndex? k ys.length = some j ∧ D.nx r (mu m2 p (.lst (ys.eraseIdx j)))) (D.at r)) (D.at r)
theorem ds_del {tpos : Pos} (ho : DE X W o to) (hi : DE X W i ti) : DS X W (.Delete [.Subscript o i tpos] pos) (xDel to ti) := ⟨fun {G r m σ H D E} rs rh hx f =>
  ss_of (ps_delL se_pe se_pe) (ho.run rs rh hx (fun v y G1 m1 H1 e1 rh1 rv1 q1 =>
    hi.run (rs.mono e1) rh1 q1 (fun w z G2 m2 H2 e2 rh2 rv2 ⟨p, ys, k, j, q3, q4, q5, q6, q7, q8, q9⟩ => by
      subst q3 q4
      cases rv1.loc
      obtain ⟨ws, e5, r5⟩ := rh2.lst q5
      exact ⟨p, ws, k, j, rfl, rv2.int, e5, q6, q7, by rw [r5.length]; exact q8, f.nx _ _ G2 _ _ (e1.trans e2) (rs.mono (e1.trans e2)) (rh2.write q5 (.lst (RVs.eraseIdx j r5))) q9⟩) ((f.mono e1).cx (rs.mono e1))) (f.cx rs))⟩
/-- o.f = e -/
abbrev xSetF (K : PySem.W.Frag) (to tv : XE) (fn : Str) : XS := fun D r m => tv r m (fun y m1 => to r m1 (fun z m2 => ∃ p C dx gs, z = .l p ∧ m2 p = some (.ins C dx gs) ∧ Cls K C ∧ NoAttr K C fn ∧ gs.length < 1000 ∧ D.nx r (mu m2 p (.ins C dx (putY fn y gs)))) (D.at r)) (D.at r)
theorem RF.put {G : Hp} {f : Str} {v : V} {y : Y} (h : RV K G v y) : ∀ {fs : List (Str × V)} {gs : List (Str × Y)}, RF K G fs gs → RF K G (putF f v fs) (putY f y gs)
  | _, _, .nil => .cons ⟨rfl, h⟩ .nil
  | (a, _) :: _, (b, _) :: _, .cons ⟨h1, h2⟩ t => by
    have h1' : a = b := h1
    subst h1'
    show RF K G (if a = f then _ else _) (if a = f then _ else _)
    by_cases q : a = f
    · rw [if_pos q, if_pos q]; exact .cons ⟨rfl, h⟩ t
    · rw [if_neg q, if_neg q]; exact .cons ⟨rfl, h2⟩ (RF.put h t)
theorem ds_setF {fn : Str} {pos' : Pos} (ho : DE X W o to) (hv : DE X W e t) (hs : swapsWith e (some (.Attribute o fn pos')) pos.line X.env = pure false := by rfl) : DS X W (.Assign [.Attribute o fn pos'] e pos) (xSetF X.K to t fn) := ⟨fun {G r m σ H D E} rs rh hx f =>
  ss_of (ps_fld se_pe se_pe hs) (hv.run rs rh hx (fun v y G1 m1 H1 e1 rh1 rv1 q1 =>
    ho.run (rs.mono e1) rh1 q1 (fun w z G2 m2 H2 e2 rh2 rv2 ⟨p, C, dx, gs, q3, q4, q5, q6, q7, q8⟩ => by
      subst q3
      obtain ⟨fs, e5, r5⟩ := rh2.ins q4
      exact ⟨p, C, dx, fs, rv2.loc, e5, q5, q6, by rw [r5.length]; exact q7, f.nx _ _ G2 _ _ (e1.trans e2) (rs.mono (e1.trans e2)) (rh2.write q4 (.ins (RF.put (rv1.mono e2) r5))) q8⟩) ((f.mono e1).cx (rs.mono e1))) (f.cx rs))⟩
/-- name op= e on ints -/
abbrev xAug (i : Nat) (t : XE) (g : Int → Int → Int) : XS := fun D r m => ∃ j, r[i]? = some (some (.d (.int j))) ∧ t r m (fun y m1 => ∃ k, y = .d (.int k) ∧ D.nx (r.set i (some (.d (.int (g j k))))) m1) (D.at r)
theorem ds_aug {i : Nat} {x : Str} {op : Operator} {gg : Int → Int → Int} {pos' : Pos} (hN : X.N.Nodup) (hi : X.N[i]? = some x) (hx : Loc X.env.scope x) (he : DE X W e t) (ho : PIp X op (ipI gg)) (hf : X.fn x = true ∨ X.env.scope.names.lookup x = some .local := by first | exact .inl rfl | exact .inr rfl | assumption) :
    DS X W (.AugAssign (.Name x pos') op e pos) (xAug i t gg) := ⟨fun {G r m σ H D E} rs rh ⟨j, q1, q2⟩ f => by
  obtain ⟨w, e1, rv⟩ := rs.get q1
  cases rv.int
  exact ss_of (ps_aug hN hi hx se_pe ho hf) ⟨.int j, e1, he.run rs rh q2 (fun v y G1 m1 H1 e2 rh1 rv1 ⟨k, q3, q4⟩ => by
    subst q3
    exact ⟨j, k, rfl, rv1.int, f.nx _ _ G1 m1 H1 e2 ((rs.mono e2).set (.d (.int _)) i) rh1 q4⟩) (f.cx rs)⟩⟩
end
end Dl
/-! D7: what is walked; for; list comprehensions. -/
namespace Dl
open PySem PySem.Spec PyProof.Rows L2 Evl

/-- a walk on data: how many turns, the item of a turn, what the store must keep -/
structure Wk where
  n : Nat
  itm : Nat → Mu → (Y → Mu → Prop) → Prop
  src : Mu → Prop
abbrev XI := Ro → Mu → (Wk → Mu → Prop) → XP → Prop
structure JOk (K : PySem.W.Frag) (J : It) (k : Wk) (G : Hp) : Prop where
  go : ∀ i m G2 H, Ex G G2 → Rh K G2 m H → k.src m → i < k.n → J.go i H
  yld : ∀ i m G2 H x H', Ex G G2 → Rh K G2 m H → k.src m → i < k.n → J.yld i H x H' → ∀ F Q, k.itm i m F → CvE K G2 F Q → Q x H'
  stop : ∀ m G2 H, Ex G G2 → Rh K G2 m H → k.src m → J.stop k.n H
theorem JOk.mono {K : PySem.W.Frag} {J : It} {k : Wk} {G G' : Hp} (e : Ex G G') (j : JOk K J k G) : JOk K J k G' :=
  ⟨fun i m G2 H e1 => j.go i m G2 H (e.trans e1), fun i m G2 H x H' e1 => j.yld i m G2 H x H' (e.trans e1), fun m G2 H e1 => j.stop m G2 H (e.trans e1)⟩
structure DI (X : Cx) (W : WX) (tg it : Expr) (t : XI) : Prop where
  run : ∀ {G : Hp} {r : Ro} {m : Mu} {σ : L2.St} {H : Hp} {F : Wk → Mu → Prop} {P : XP} {R : It → Hp → Prop}, Rs X.K G σ r → Rh X.K G m H → t r m F P →
    (∀ J k G' m' H', Ex G G' → Rh X.K G' m' H' → JOk X.K J k G' → F k m' → R J H') → CvX X.K G P (WEx W σ) → SI X tg it σ H R

section
variable {X : Cx} {W : WX} {tg e e2 : Expr} {pos : Pos} {t : XE} {ta : XA} {K : PySem.W.Frag}
theorem si_seq {σ : L2.St} {H : Hp} {R : It → Hp → Prop} (h : SE X e σ H fun x H1 => ∃ a, x = .ref a ∧ ((∃ xs, SqL X.K H1 a xs ∧ R (Itl X.K a) H1) ∨ ∃ xs, SqT X.K H1 a xs ∧ R (Itt X.K a) H1)) : SI X tg e σ H R := fun pins s I => by
  refine thn (h pins s I) fun v s1 ⟨x, H1, J, r1, a, ex, alt⟩ => ?_
  subst ex
  cases r1
  have fresh1 : ∀ b ∈ [s1.heap.objs.size], FpOk X pins H1 b := fun b hb => by
    obtain rfl : b = s1.heap.objs.size := by simpa using hb
    exact J.fpOk (Nat.le_refl _) (J.hok.fresh (Nat.le_refl _))
  rcases alt with ⟨xs, hq, q⟩ | ⟨xs, hq, q⟩
  · obtain ⟨its, rv, pl, hz⟩ := J.list hq
    exact wpAny_pyIter_list pl.isList ⟨_, [s1.heap.objs.size], _, _, H1, rfl, J.kept (t' := s1.toks) (fun b o z => Heap.get?_push_of_some _ z), turn_list a _, ⟨_, Heap.get?_push_size _ rfl, rfl, rfl⟩, fresh1, q⟩
  · obtain ⟨its, rv, pl, hz⟩ := J.tuple hq
    exact wpAny_pyIter_tuple (show s1.heap.IsTuple a its.toArray from pl) ⟨_, [s1.heap.objs.size], _, _, H1, rfl, J.kept (t' := s1.toks) (fun b o z => Heap.get?_push_of_some _ z), turn_tuple a _, ⟨_, Heap.get?_push_size _ rfl, rfl, rfl⟩, fresh1, q⟩
abbrev wkSeq (m1 : Mu) (y : Y) (ys : List Y) : Wk := ⟨ys.length, fun i m F => ∃ z, ys[i]? = some z ∧ F z m, fun m => ∀ p, y = .l p → m p = m1 p⟩
/-- over a list or a tuple -/
abbrev xiSeq (t : XE) : XI := fun r m F P => t r m (fun y m1 => ∃ ys, SqY m1 y ys ∧ F (wkSeq m1 y ys) m1) P
theorem jok_L {G : Hp} {a : Addr} {y : Y} {ys : List Y} {m1 : Mu} (h : ∀ m G2 H, Ex G G2 → Rh K G2 m H → (∀ p, y = .l p → m p = m1 p) → ∃ vs, SqL K H a vs ∧ RVs K G2 vs ys) : JOk K (Itl K a) (wkSeq m1 y ys) G where
  go := fun i m G2 H e rh s hi => by
    obtain ⟨vs, h1, h2⟩ := h m G2 H e rh s
    have hi' : i < vs.length := by rw [h2.length]; exact hi
    exact ⟨vs, vs[i], h1, by simp [hi']⟩
  yld := fun i m G2 H x H' e rh s hi q F Q f cv => by
    obtain ⟨vs, h1, h2⟩ := h m G2 H e rh s
    obtain ⟨rfl, q2⟩ := q
    obtain ⟨z, hz, f⟩ := f
    obtain ⟨w, hw, rw⟩ := RVs.get h2 hz
    have e1 := q2 vs h1
    rw [hw] at e1; cases e1
    exact cv.at rh rw f
  stop := fun m G2 H e rh s => by
    obtain ⟨vs, h1, h2⟩ := h m G2 H e rh s
    exact ⟨vs, h1, by rw [h2.length]; exact Nat.le_refl _⟩
theorem jok_T {G : Hp} {a : Addr} {y : Y} {ys : List Y} {m1 : Mu} (h : ∀ m G2 H, Ex G G2 → Rh K G2 m H → (∀ p, y = .l p → m p = m1 p) → ∃ vs, SqT K H a vs ∧ RVs K G2 vs ys) : JOk K (Itt K a) (wkSeq m1 y ys) G where
  go := fun i m G2 H e rh s hi => by
    obtain ⟨vs, h1, h2⟩ := h m G2 H e rh s
    have hi' : i < vs.length := by rw [h2.length]; exact hi
    exact ⟨vs, vs[i], h1, by simp [hi']⟩
  yld := fun i m G2 H x H' e rh s hi q F Q f cv => by
    obtain ⟨vs, h1, h2⟩ := h m G2 H e rh s
    obtain ⟨rfl, q2⟩ := q
    obtain ⟨z, hz, f⟩ := f
    obtain ⟨w, hw, rw⟩ := RVs.get h2 hz
    have e1 := q2 vs h1
    rw [hw] at e1; cases e1
    exact cv.at rh rw f
  stop := fun m G2 H e rh s => by
    obtain ⟨vs, h1, h2⟩ := h m G2 H e rh s
    exact ⟨vs, h1, by rw [h2.length]; exact Nat.le_refl _⟩
theorem di_seq (h : DE X W e t) : DI X W tg e (xiSeq t) := ⟨fun {G r m σ H F P R} rs rh hx cr cx =>
  si_seq (h.run rs rh hx (fun v y G1 m1 H1 e1 rh1 rv1 ⟨ys, hs, f⟩ => by
    cases rv1 with
    | d q =>
      cases q with
      | lst s q =>
        cases hs
        exact ⟨_, rfl, .inl ⟨_, .inl (rd_sub rh1 s), cr _ _ G1 m1 H1 e1 rh1 (jok_L fun m G2 H e2 rh2 _ => ⟨_, .inl (rd_sub rh2 (ex_rd e2 s)), RVs.mono e2 q.rvs⟩) f⟩⟩
      | tup s q =>
        cases hs
        exact ⟨_, rfl, .inr ⟨_, ex_t rh1.sub s, cr _ _ G1 m1 H1 e1 rh1 (jok_T fun m G2 H e2 rh2 _ => ⟨_, ex_t (e2.trans rh2.sub) s, RVs.mono e2 q.rvs⟩) f⟩⟩
      | _ => exact hs.elim
    | l p =>
      rcases hs with hs | hs
      · obtain ⟨ws, e5, q⟩ := rh1.lst hs
        exact ⟨_, rfl, .inl ⟨ws, SqL.of e5, cr _ _ G1 m1 H1 e1 rh1 (jok_L fun m G2 H e2 rh2 sr => by
          obtain ⟨ws2, e6, q2⟩ := rh2.lst ((sr p rfl).trans hs)
          exact ⟨ws2, SqL.of e6, q2⟩) f⟩⟩
      · obtain ⟨ws, e5, q⟩ := rh1.tup hs
        exact ⟨_, rfl, .inr ⟨ws, SqT.of e5, cr _ _ G1 m1 H1 e1 rh1 (jok_T fun m G2 H e2 rh2 sr => by
          obtain ⟨ws2, e6, q2⟩ := rh2.tup ((sr p rfl).trans hs)
          exact ⟨ws2, SqT.of e6, q2⟩) f⟩⟩
    | v x => exact hs.elim
    | r s q =>
      cases hs
      exact ⟨_, rfl, .inl ⟨_, ex_l rh1.sub s, cr _ _ G1 m1 H1 e1 rh1 (jok_L fun m G2 H e2 rh2 _ => ⟨_, ex_l (e2.trans rh2.sub) s, RVs.mono e2 q.rvs⟩) f⟩⟩) cx)⟩
abbrev wkRange (lo : Int) (n : Nat) : Wk := ⟨n, fun i m F => F (.d (.int (lo + i))) m, fun _ => True⟩
theorem jok_R {G : Hp} {lo : Int} {n : Nat} : JOk K (Itr lo n) (wkRange lo n) G where
  go := fun i m G2 H _ _ _ hi => hi
  yld := fun i m G2 H x H' e rh s hi q F Q f cv => by
    obtain ⟨rfl, rfl⟩ := q
    exact cv.at rh (.d (.int _)) f
  stop := fun _ _ _ _ _ _ => Nat.le_refl _
abbrev xiRange1 (ta : XA) : XI := fun r m F P => ta r m (fun ys m1 => ∃ j : Int, ys = [.d (.int j)] ∧ -100000000 ≤ j ∧ j ≤ 100000000 ∧ F (wkRange 0 j.toNat) m1) P
theorem di_range1 {p : Pos} (hg : Gl X "range") (hm : X.mg "range" = none) (ha : DA X W [e] ta) (hs : starEach [e] X.env = [(false, eval e X.env)] := by rfl) : DI X W tg (.Call (.Name "range" p) [e] [] pos) (xiRange1 ta) := ⟨fun {G r m σ H F P R} rs rh hx cr cx =>
  si_of (pi_range1 hg hm sa_pa hs) (ha.run rs rh hx (fun vs ys G1 m1 H1 e1 rh1 rv1 ⟨j, q1, q2, q3, q4⟩ => by
    subst q1
    obtain ⟨v, rfl, r1⟩ := rvs1 rv1
    cases r1.int
    exact ⟨j, rfl, by omega, by omega, cr _ _ G1 m1 H1 e1 rh1 jok_R q4⟩) cx)⟩
abbrev xiRange2 (ta : XA) : XI := fun r m F P => ta r m (fun ys m1 => ∃ i j : Int, ys = [.d (.int i), .d (.int j)] ∧ (-100000000 ≤ i ∧ i ≤ 100000000 ∧ -100000000 ≤ j ∧ j ≤ 100000000) ∧ F (wkRange i (j - i).toNat) m1) P
theorem di_range2 {p : Pos} (hg : Gl X "range") (hm : X.mg "range" = none) (ha : DA X W [e, e2] ta) (hs : starEach [e, e2] X.env = [(false, eval e X.env), (false, eval e2 X.env)] := by rfl) (hs2 : starEach [e2] X.env = [(false, eval e2 X.env)] := by rfl) :
    DI X W tg (.Call (.Name "range" p) [e, e2] [] pos) (xiRange2 ta) := ⟨fun {G r m σ H F P R} rs rh hx cr cx =>
  si_of (pi_range2 hg hm sa_pa hs hs2) (ha.run rs rh hx (fun vs ys G1 m1 H1 e1 rh1 rv1 ⟨i, j, q1, q2, q4⟩ => by
    subst q1
    obtain ⟨v, w, rfl, r1, r2⟩ := rvs2 rv1
    cases r1.int; cases r2.int
    exact ⟨i, j, rfl, by omega, cr _ _ G1 m1 H1 e1 rh1 jok_R q4⟩) cx)⟩
/-- a list that is read, at each state that keeps it -/
abbrev LsR (m : Mu) : Y → List Y → Prop
  | .d (.list ds), ys => ys = ds.map Y.d
  | .r ds, ys => ys = ds.map Y.d
  | .l p, ys => m p = some (.lst ys)
  | _, _ => False
theorem lsR_ok {G H1 : Hp} {v : V} {y : Y} {ys : List Y} {m1 : Mu} (rh : Rh K G m1 H1) (rv : RV K G v y) (h : LsR m1 y ys) : ∃ a, v = .ref a ∧ (∃ vs, SqL K H1 a vs) ∧
    ∀ m G2 H, Ex G G2 → Rh K G2 m H → (∀ p, y = .l p → m p = m1 p) → ∃ vs, SqL K H a vs ∧ RVs K G2 vs ys := by
  cases rv with
  | d q =>
    cases q with
    | lst s q => cases h; exact ⟨_, rfl, ⟨_, .inl (rd_sub rh s)⟩, fun m G2 H e2 rh2 _ => ⟨_, .inl (rd_sub rh2 (ex_rd e2 s)), RVs.mono e2 q.rvs⟩⟩
    | _ => exact h.elim
  | l p =>
    obtain ⟨ws, e5, q⟩ := rh.lst h
    exact ⟨_, rfl, ⟨ws, SqL.of e5⟩, fun m G2 H e2 rh2 sr => by
      obtain ⟨ws2, e6, q2⟩ := rh2.lst ((sr p rfl).trans h)
      exact ⟨ws2, SqL.of e6, q2⟩⟩
  | v x => exact h.elim
  | r s q => cases h; exact ⟨_, rfl, ⟨_, ex_l rh.sub s⟩, fun m G2 H e2 rh2 _ => ⟨_, ex_l (e2.trans rh2.sub) s, RVs.mono e2 q.rvs⟩⟩
abbrev wkEnum (m1 : Mu) (y : Y) (ys : List Y) : Wk := ⟨ys.length, fun i m F => ∃ z, ys[i]? = some z ∧ mkT [.d (.int (i : Nat)), z] m F, fun m => ∀ p, y = .l p → m p = m1 p⟩
abbrev xiEnum (ta : XA) : XI := fun r m F P => ta r m (fun ys m1 => ∃ y zs, ys = [y] ∧ LsR m1 y zs ∧ F (wkEnum m1 y zs) m1) P
theorem di_enum {p tpos : Pos} {elts : List Expr} {kk : Nat} (hg : Gl X "enumerate") (hm : X.mg "enumerate" = none) (ha : DA X W [e] ta) (hs : starEach [e] X.env = [(false, eval e X.env)] := by rfl) :
    DI X W (.Tuple elts kk tpos) (.Call (.Name "enumerate" p) [e] [] pos) (xiEnum ta) := ⟨fun {G r m σ H F P R} rs rh hx cr cx =>
  si_of (pi_enum hg hm sa_pa hs) (ha.run rs rh hx (fun vs ys G1 m1 H1 e1 rh1 rv1 ⟨y, zs, q1, q2, q3⟩ => by
    subst q1
    obtain ⟨v, rfl, r1⟩ := rvs1 rv1
    obtain ⟨a, rfl, ⟨vs, hv⟩, hk⟩ := lsR_ok rh1 r1 q2
    refine ⟨a, vs, rfl, hv, cr _ _ G1 m1 H1 e1 rh1 ⟨fun i m G2 H e rh s hi => ?_, fun i m G2 H x H' e rh s hi q F Q f cv => ?_, fun m G2 H e rh s => ?_⟩ q3⟩
    · obtain ⟨vs, h1, h2⟩ := hk m G2 H e rh s
      have hi' : i < vs.length := by rw [h2.length]; exact hi
      exact ⟨vs, vs[i], h1, by simp [hi']⟩
    · obtain ⟨vs, h1, h2⟩ := hk m G2 H e rh s
      obtain ⟨T, x0, rfl, hT, rfl, q2⟩ := q
      obtain ⟨z, hz, f⟩ := f
      obtain ⟨w, hw, rw⟩ := RVs.get h2 hz
      have e1 := q2 vs h1
      rw [hw] at e1; cases e1
      exact mkT_ok rh (.cons (.d (.int _)) (.cons rw .nil)) hT f cv
    · obtain ⟨vs, h1, h2⟩ := hk m G2 H e rh s
      exact ⟨vs, h1, by rw [h2.length]; exact Nat.le_refl _⟩) cx)⟩
end

/-! ### for -/
section
variable {X : Cx} {W : WX} {tg e it : Expr} {body : List Stmt} {pos : Pos} {t : XE} {ti : XI} {g : XG} {tb : XS}
abbrev xFor (ti : XI) (g : XG) (tb : XS) : XS := fun D r m => ti r m (fun k m1 => ∃ Z : Nat → Ro → Mu → Prop, Z 0 r m1 ∧ ∀ i r m, i ≤ k.n → Z i r m → k.src m ∧
  (i < k.n → k.itm i m (fun y m' => g y r m' (fun r2 m2 => tb { D with nx := Z (i + 1), ct := Z (i + 1), bk := D.nx } r2 m2))) ∧ (i = k.n → D.nx r m)) (D.at r)
theorem ds_for (hp : PassesOwn (model X.prog X.w) X.A X.env X.xe) (hc : X.calm = true) (hi : DI X W tg it ti) (hg : DG X tg g) (hb : DSs X W body tb) (hs : ∀ x, foldedSetIterable it X.env x = pure x := by intro _; rfl) :
    DS X W (.For tg it body [] pos) (xFor ti g tb) := ⟨fun {G r m σ H D E} rs rh hx f =>
  ss_of (ps_for hp hc si_pi sg_pg sss_pss hs) (hi.run rs rh hx (fun J k G1 m1 H1 e1 rh1 jk ⟨Z, z0, zs⟩ => by
    refine ⟨fun i n σ' H' => n = k.n - i ∧ i ≤ k.n ∧ ∃ G' r' m', Ex G1 G' ∧ Rs X.K G' σ' r' ∧ Rh X.K G' m' H' ∧ Z i r' m', ⟨k.n, by simp, Nat.zero_le _, G1, r, m1, Ex.refl _, rs.mono e1, rh1, z0⟩, ?_⟩
    rintro i n σ' H' ⟨rfl, hi', G', r', m', e2, rs2, rh2, z⟩
    obtain ⟨z1, z2, z3⟩ := zs i r' m' hi' z
    by_cases hlt : i < k.n
    · refine .inr ⟨jk.go i m' G' H' e2 rh2 z1 hlt, fun σ3 H3 => ∃ G3 r3 m3, Ex G1 G3 ∧ Rs X.K G3 σ3 r3 ∧ Rh X.K G3 m3 H3 ∧ Z (i + 1) r3 m3, fun σ3 H3 q => ⟨k.n - (i + 1), by omega, rfl, by omega, q⟩, fun x H3 hy => ?_⟩
      refine jk.yld i m' G' H' x H3 e2 rh2 z1 hlt hy _ (fun x H3 => SG X tg x σ' H3 _) (z2 hlt) fun v y G3 m3 H4 e3 rh3 rv3 q3 => ?_
      refine hg.run (rs2.mono e3) rh3 rv3 q3 fun σ5 r5 G5 m5 H5 e5 rs5 rh5 q5 => ?_
      have up : Ex G G5 := ((e1.trans e2).trans e3).trans e5
      have up1 : Ex G1 G5 := (e2.trans e3).trans e5
      exact hb.run rs5 rh5 q5 ⟨fun σ6 r6 G6 m6 H6 e6 rs6 rh6 q6 => ⟨G6, r6, m6, up1.trans e6, rs6, rh6, q6⟩, (f.mono up).rt, (f.mono up).nx, fun σ6 r6 G6 m6 H6 e6 rs6 rh6 q6 => ⟨G6, r6, m6, up1.trans e6, rs6, rh6, q6⟩, (f.mono up).ex⟩
    · have hn : i = k.n := by omega
      subst hn
      exact .inl ⟨jk.stop m' G' H' e2 rh2 z1, f.nx _ _ G' m' H' (e1.trans e2) rs2 rh2 (z3 rfl)⟩) (f.cx rs))⟩
abbrev xWhile (c : XT) (tb : XS) : XS := fun D r m => ∃ Z : Nat → Ro → Mu → Prop, (∃ n, Z n r m) ∧ ∀ n r m, Z n r m → c r m (fun k m1 => if k = true then tb { D with nx := fun r' m' => ∃ n', n' < n ∧ Z n' r' m', ct := fun r' m' => ∃ n', n' < n ∧ Z n' r' m', bk := D.nx } r m1 else D.nx r m1) (D.at r)
theorem ds_while {c : Expr} {tc : XT} (hp : PassesOwn (model X.prog X.w) X.A X.env X.xe) (hc : DT X W c tc) (hb : DSs X W body tb) : DS X W (.While c body [] pos) (xWhile tc tb) := ⟨fun {G r m σ H D E} rs rh ⟨Z, ⟨n0, z0⟩, zs⟩ f =>
  ss_of (ps_while hp st_pt sss_pss) ⟨fun n σ' H' => ∃ G' r' m', Ex G G' ∧ Rs X.K G' σ' r' ∧ Rh X.K G' m' H' ∧ Z n r' m', ⟨n0, G, r, m, Ex.refl _, rs, rh, z0⟩, fun n σ' H' ⟨G', r', m', e1, rs1, rh1, z⟩ =>
    hc.run rs1 rh1 (zs n r' m' z) (fun k G2 m2 H2 e2 rh2 q => by
      cases k with
      | true =>
        refine ⟨fun σ3 H3 => ∃ n', n' < n ∧ ∃ G3 r3 m3, Ex G G3 ∧ Rs X.K G3 σ3 r3 ∧ Rh X.K G3 m3 H3 ∧ Z n' r3 m3, fun σ3 H3 ⟨n', h, q⟩ => ⟨n', h, q⟩, ?_⟩
        have up : Ex G G2 := e1.trans e2
        exact hb.run (rs1.mono e2) rh2 q ⟨fun σ6 r6 G6 m6 H6 e6 rs6 rh6 ⟨n', h, q6⟩ => ⟨n', h, G6, r6, m6, up.trans e6, rs6, rh6, q6⟩, (f.mono up).rt, (f.mono up).nx, fun σ6 r6 G6 m6 H6 e6 rs6 rh6 ⟨n', h, q6⟩ => ⟨n', h, G6, r6, m6, up.trans e6, rs6, rh6, q6⟩, (f.mono up).ex⟩
      | false => exact f.nx _ _ G2 m2 H2 (e1.trans e2) (rs1.mono e2) rh2 q) ((f.mono e1).cx rs1)⟩⟩
end

/-! ### list comprehensions -/
/-- a target of a comprehension: it touches its own slots alone -/
def DGw (K : PySem.W.Frag) (vs : List Nat) (g : TG) (x : XG) : Prop := ∀ {G : Hp} {r : Ro} {m : Mu} {σ : L2.St} {H : Hp} {v : V} {y : Y} {F : Ro → Mu → Prop} {Q : L2.St → Hp → Prop}, Rs K G σ r → Rh K G m H → RV K G v y → x y r m F →
  (∀ σ' r' G' m' H', Ex G G' → Rs K G' σ' r' → Rh K G' m' H' → wipe σ' vs = wipe σ vs → F r' m' → Q σ' H') → g v σ H Q
def DGws (K : PySem.W.Frag) (vs : List Nat) (g : TGs) (x : XGs) : Prop := ∀ {G : Hp} {r : Ro} {m : Mu} {σ : L2.St} {H : Hp} {ws : List V} {ys : List Y} {F : Ro → Mu → Prop} {Q : L2.St → Hp → Prop}, Rs K G σ r → Rh K G m H → RVs K G ws ys → x ys r m F →
  (∀ σ' r' G' m' H', Ex G G' → Rs K G' σ' r' → Rh K G' m' H' → wipe σ' vs = wipe σ vs → F r' m' → Q σ' H') → g ws σ H Q
theorem wipe_set {i : Nat} {o : Option V} : ∀ {vs : List Nat} (σ : L2.St), i ∈ vs → wipe (σ.set i o) vs = wipe σ vs
  | [], _, h => absurd h (by simp)
  | v :: vs, σ, h => by
    show (wipe (σ.set i o) vs).set v none = (wipe σ vs).set v none
    by_cases z : i ∈ vs
    · rw [wipe_set σ z]
    · have e : i = v := by simpa [z] using h
      subst e
      have comm : ∀ (us : List Nat), i ∉ us → wipe (σ.set i o) us = (wipe σ us).set i o := by
        intro us
        induction us with
        | nil => intro _; rfl
        | cons w us ih =>
          intro hn
          simp only [List.mem_cons, not_or] at hn
          show (wipe (σ.set i o) us).set w none = ((wipe σ us).set w none).set i o
          rw [ih hn.2, List.set_comm _ _ hn.1]
      rw [comm vs z, List.set_set]
section
variable {K : PySem.W.Frag} {vs : List Nat} {g : TG} {gs : TGs} {x : XG} {xs : XGs}
theorem dgw_name {i : Nat} (h : i ∈ vs) : DGw K vs (gName i) (xgName i) := fun {G r m σ H v y F Q} rs rh rv hx k => k _ _ G m H (Ex.refl G) (rs.set rv i) rh (wipe_set σ h) hx
theorem dgw_nil : DGws K vs gNil xgNil := fun {G r m σ H ws ys F Q} rs rh rv ⟨e, h⟩ k => by
  subst e; cases rv
  exact ⟨rfl, k _ _ G m H (Ex.refl G) rs rh rfl h⟩
theorem dgw_cons (h1 : DGw K vs g x) (h2 : DGws K vs gs xs) : DGws K vs (gCons g gs) (xgCons x xs) := fun {G r m σ H ws ys F Q} rs rh rv ⟨y, zs, e1, h⟩ k => by
  subst e1
  cases rv with
  | cons r1 r2 => exact ⟨_, _, rfl, h1 rs rh r1 h fun σ1 r3 G1 m1 H1 e1 rs1 rh1 w1 q => h2 rs1 rh1 (RVs.mono e1 r2) q fun σ2 r4 G2 m2 H2 e2 rs2 rh2 w2 q2 => k _ _ G2 m2 H2 (e1.trans e2) rs2 rh2 (w2.trans w1) q2⟩
theorem dgw_tup {n : Nat} (h : DGws K vs gs xs) : DGw K vs (gTup K n gs) (xgTup n xs) := fun {G r m σ H v y F Q} rs rh rv ⟨ys, h1, h2, h3, h4, h5, h6⟩ k => by
  have z : ∃ p us, v = .ref p ∧ SqT K H p us ∧ RVs K G us ys := by
    cases rv with
    | d q =>
      cases q with
      | tup s q => cases h1; exact ⟨_, _, rfl, ex_t rh.sub s, q.rvs⟩
      | lst s q => exact absurd rfl (h2 _)
      | _ => exact h1.elim
    | l p =>
      obtain ⟨ws, e, q⟩ := rh.tup (h3 p rfl)
      exact ⟨p, ws, rfl, SqT.of e, q⟩
    | v x => exact h1.elim
    | r s q => exact absurd rfl (h4 _)
  obtain ⟨p, us, rfl, s1, q⟩ := z
  exact ⟨p, us, rfl, s1, by rw [q.length]; exact h5, h rs rh q h6 k⟩
theorem Rs.wipe {G : Hp} : ∀ {σ : L2.St} {r : Ro} (vs : List Nat), Rs K G σ r → Rs K G (L2.wipe σ vs) (vs.foldr (fun v r => r.set v none) r)
  | _, _, [], h => h
  | _, _, v :: vs, h => Rs.wipe1 v (Rs.wipe vs h)
end
/-- the hand layer's readings of a data transformer, whatever the block -/
def TEof (K : PySem.W.Frag) (W : WX) (t : XE) : TE := fun σ H Q => ∃ G r m F P, Rs K G σ r ∧ Rh K G m H ∧ t r m F P ∧ CvE K G F Q ∧ CvX K G P (WEx W σ)
def TTof (K : PySem.W.Frag) (W : WX) (t : XT) : TT := fun σ H Q => ∃ G r m F P, Rs K G σ r ∧ Rh K G m H ∧ t r m F P ∧ CvT K G F Q ∧ CvX K G P (WEx W σ)
abbrev W0 : WX := fun _ _ _ _ => False
abbrev P0 : XP := fun _ _ _ => False
abbrev wipeR (r : Ro) (vs : List Nat) : Ro := vs.foldr (fun v r => r.set v none) r
abbrev xYes : XT := fun _ m F _ => F true m
/-- the new list at D while it grows -/
abbrev xLcW (fin : Addr → List Y → Mu → (Y → Mu → Prop) → Prop) (ti : XI) (g : XG) (tt : XT) (te : XE) (vs : List Nat) : XE := fun r m F P => ti r m (fun k m1 => ∀ D, m1 D = none → ∃ Z : Nat → List Y → Mu → Prop, Z 0 [] (mu m1 D (.lst [])) ∧
  ∀ i acc M, i ≤ k.n → Z i acc M → M D = some (.lst acc) ∧ k.src M ∧ (i < k.n → k.itm i M (fun y M1 => g y (wipeR r vs) M1 (fun r2 M2 => tt r2 M2 (fun b M3 =>
    if b = true then te r2 M3 (fun z M4 => M4 D = some (.lst acc) ∧ acc.length < 10000 ∧ Z (i + 1) (acc ++ [z]) (mu M4 D (.lst (acc ++ [z])))) P0 else Z (i + 1) acc M3) P0))) ∧ (i = k.n → fin D acc M F)) P
abbrev finM : Addr → List Y → Mu → (Y → Mu → Prop) → Prop := fun D _ M F => F (.l D) M
abbrev finD : Addr → List Y → Mu → (Y → Mu → Prop) → Prop := fun D acc M F => ∃ ds, acc = ds.map Y.d ∧ F (.d (.list ds)) (fun b => if b = D then none else M b)
structure FinOk (fin : Addr → List Y → Mu → (Y → Mu → Prop) → Prop) : Prop where
  ok : ∀ {K : PySem.W.Frag} {G H : Hp} {M : Mu} {D : Addr} {acc : List Y} {F : Y → Mu → Prop} {Q : VK}, Rh K G M H → M D = some (.lst acc) → fin D acc M F → CvE K G F Q → Q (.ref D) H
theorem finM_ok : FinOk finM := ⟨fun {K G H M D acc F Q} rh hd h cv => cv.at rh (.l D) h⟩
theorem finD_ok : FinOk finD := ⟨fun {K G H M D acc F Q} rh hd ⟨ds, e, h⟩ cv => by
  subst e
  obtain ⟨G', e1, r1, v1⟩ := rh.frz hd
  exact cv _ _ G' _ H e1 r1 v1 h⟩
section
variable {X : Cx} {W : WX} {elt tg iter : Expr} {ifs : List Expr} {scope : Scope} {own : List (Str × Nat)} {pos : Pos} {ti : XI} {g : TG} {xg : XG} {tt : XT} {te : XE} {fin : Addr → List Y → Mu → (Y → Mu → Prop) → Prop}
theorem lc_read {σ : L2.St} {H : Hp} {vs : List Nat} {G : Hp} {r : Ro} {m : Mu} {F : Y → Mu → Prop} {P : XP} {Q : VK} (hf : FinOk fin) (hi : DI X W tg iter ti) (hw : DGw X.K vs g xg) (rs : Rs X.K G σ r) (rh : Rh X.K G m H) (hx : xLcW fin ti xg tt te vs r m F P) (cv : CvE X.K G F Q) (cx : CvX X.K G P (WEx W σ)) :
    tLc (SI X tg iter) g (TTof X.K W0 tt) (TEof X.K W0 te) vs σ H Q := by
  refine hi.run rs rh hx (fun J k G1 m1 H1 e1 rh1 jk hz D hD => ?_) cx
  obtain ⟨Z, z0, zs⟩ := hz D (rh1.free hD).2
  refine ⟨fun i n H' => n = k.n - i ∧ i ≤ k.n ∧ ∃ G' acc M, Ex G1 G' ∧ Rh X.K G' M H' ∧ Z i acc M, ⟨k.n, by simp, Nat.zero_le _, G1, [], _, Ex.refl _, rh1.new hD (.lst .nil), z0⟩, ?_⟩
  rintro i n H' ⟨rfl, hi', G', acc, M, e2, rh2, z⟩
  obtain ⟨z1, z2, z3, z4⟩ := zs i acc M hi' z
  by_cases hlt : i < k.n
  · refine .inr ⟨jk.go i M G' H' e2 rh2 z2 hlt, fun H3 => ∃ G3 acc3 M3, Ex G1 G3 ∧ Rh X.K G3 M3 H3 ∧ Z (i + 1) acc3 M3, fun H3 q => ⟨k.n - (i + 1), by omega, rfl, by omega, q⟩, fun x H3 hy => ?_⟩
    refine jk.yld i M G' H' x H3 e2 rh2 z2 hlt hy _ (fun x H3 => g x (wipe σ vs) H3 _) (z3 hlt) fun v y G3 m3 H4 e3 rh3 rv3 q3 => ?_
    have rsw : Rs X.K G3 (wipe σ vs) (wipeR r vs) := Rs.wipe vs (rs.mono ((e1.trans e2).trans e3))
    refine hw rsw rh3 rv3 q3 fun σ5 r5 G5 m5 H5 e5 rs5 rh5 w5 q5 => ⟨?_, G5, r5, m5, _, P0, rs5, rh5, q5, fun b G6 m6 H6 e6 rh6 q6 => ?_, fun _ _ _ _ _ _ _ _ _ z => z⟩
    · rw [w5]
      have ww : ∀ (us : List Nat), (∀ x ∈ us, x ∈ vs) → wipe (wipe σ us) vs = wipe σ vs := by
        intro us
        induction us with
        | nil => intro _; rfl
        | cons a us ih => intro hu; exact (wipe_set _ (hu a (by simp))).trans (ih fun x hx => hu x (by simp [hx]))
      exact ww vs fun x hx => hx
    · have up : Ex G1 G6 := ((e2.trans e3).trans e5).trans e6
      cases b with
      | true =>
        refine ⟨G6, r5, m6, _, P0, rs5.mono e6, rh6, q6, fun u y G7 m7 H7 e7 rh7 rv7 ⟨q7, q8, q9⟩ => ?_, fun _ _ _ _ _ _ _ _ _ z => z⟩
        obtain ⟨ws, ew, rw⟩ := rh7.lst q7
        exact ⟨ws, ew, by rw [rw.length]; exact Nat.lt_of_lt_of_le q8 szl, G7, _, _, up.trans e7, rh7.write q7 (.lst (rw.app (.cons rv7 .nil))), q9⟩
      | false => exact ⟨G6, acc, m6, up, rh6, q6⟩
  · have hn : i = k.n := by omega
    subst hn
    exact .inl ⟨jk.stop M G' H' e2 rh2 z2, hf.ok rh2 z1 (z4 rfl) (cv.mono (e1.trans e2))⟩
abbrev Blk (X : Cx) (scope : Scope) (e : Cx → Prop) : Prop := ∀ (s : Shared) (H : Hp) (C : Addr) (cl : List (Str × Addr)) (fp : List Addr), e (X.blk s H scope (compEnvC scope cl C X.env) fp)
structure DTs (X : Cx) (ifs : List Expr) (t : XT) : Prop where
  run : PTs X ifs (TTof X.K W0 t)
theorem dts_nil : DTs X [] xYes := ⟨⟨fun pins s σ H Q I ⟨G, r, m, F, P, rs, rh, h, cv, cx⟩ => pts_nil.run pins s σ H Q I (cv true G m H (Ex.refl G) rh h)⟩⟩
theorem dts_one {c : Expr} (h : DT X W0 c tt) : DTs X [c] tt := ⟨⟨fun pins s σ H Q I ⟨G, r, m, F, P, rs, rh, q, cv, cx⟩ => (pts_one st_pt).run pins s σ H Q I (h.run rs rh q cv cx)⟩⟩
theorem teof_pe {e : Expr} (h : DE X W0 e te) : PE X e (TEof X.K W0 te) := ⟨fun pins s σ H Q I ⟨G, r, m, F, P, rs, rh, q, cv, cx⟩ => h.run rs rh q cv cx pins s I⟩
theorem de_lc (hf : FinOk fin) (hc : X.calm = true) (hN : X.N.Nodup) (hi : DI X W tg iter ti) (ok : BlkOk X.N X.env.scope scope own) (hg : Blk X scope fun X' => PG X' tg g) (hw : DGw X.K (own.map (·.2)) g xg) (ht : Blk X scope fun X' => DTs X' ifs tt) (he : Blk X scope fun X' => DE X' W0 elt te)
    (hs : ∀ x, foldedSetIterable iter X.env x = pure x := by intro _; rfl) : DE X W (.ListComp elt [⟨tg, iter, ifs, 0⟩] scope pos) (xLcW fin ti xg tt te (own.map (·.2))) := ⟨fun {G r m σ H F P Q} rs rh hx cv cx =>
  se_of (pe_lc hc hN si_pi ok hg (fun s H C cl fp => (ht s H C cl fp).run) (fun s H C cl fp => teof_pe (he s H C cl fp)) hs) (lc_read hf hi hw rs rh hx cv cx)⟩
/-- name = [..] -/
theorem ds_setLc {i : Nat} {y : Str} {py spos : Pos} (hf : FinOk fin) (hc : X.calm = true) (hN : X.N.Nodup) (hy : X.N[i]? = some y) (hyl : X.env.scope.names.lookup y = some .local)
    (hsw : swapsWith (.ListComp elt [⟨tg, iter, ifs, 0⟩] scope pos) (some (.Name y py)) spos.line X.env = pure true) (hi : DI X W tg iter ti) (ok : BlkOk X.N X.env.scope scope own) (hg : Blk X scope fun X' => PG X' tg g) (hw : DGw X.K (own.map (·.2)) g xg)
    (ht : Blk X scope fun X' => DTs X' ifs tt) (he : Blk X scope fun X' => DE X' W0 elt te) (hs : ∀ x, foldedSetIterable iter X.env x = pure x := by intro _; rfl) :
    DS X W (.Assign [.Name y py] (.ListComp elt [⟨tg, iter, ifs, 0⟩] scope pos) spos) (xAsg (xLcW fin ti xg tt te (own.map (·.2))) (xgName i)) := ⟨fun {G r m σ H D E} rs rh hx f =>
  ss_of (ps_setLc hc hN hy hyl hsw si_pi ok hg (fun s H C cl fp => (ht s H C cl fp).run) (fun s H C cl fp => teof_pe (he s H C cl fp)) hs)
    (lc_read hf hi hw rs rh hx (fun v z G1 m1 H1 e1 rh1 rv1 q => f.nx _ _ G1 m1 H1 e1 ((rs.mono e1).set rv1 i) rh1 q) (f.cx rs))⟩
end
end Dl
/-! D8: repr, sorted, methods, exceptions, a def by its body, the law's end. -/
namespace Dl
open PySem PySem.Spec PyProof.Rows L2 Evl

/-! ### what is read off as data -/
section
variable {X : Cx} {K : PySem.W.Frag} {G H : Hp} {m : Mu} {pins : List (Addr × Obj)} {σ : L2.St} {s : Shared}
mutual
theorem Da.reads (I : Inv X pins σ H s) : ∀ {v : V} {d : PyData} {u : Value}, d.hasDict = false → Da X.K H v d → RelV v u → ∃ as, Reads s.heap u d as
  | _, _, _, _, .non, r => by cases r; exact ⟨_, .none⟩
  | _, _, _, _, .bl b, r => by cases r; exact ⟨_, .bool b⟩
  | _, _, _, _, .int i, r => by obtain ⟨t, rfl⟩ := r; exact ⟨_, .int i t⟩
  | _, _, _, _, .str x, r => by obtain ⟨t, rfl⟩ := r; exact ⟨_, .str x t⟩
  | _, _, _, nd, .lst q h, r => by
    cases r
    obtain ⟨its, rv, ⟨o, n, e, c, _, dt⟩, _⟩ := I.list (.inl q)
    obtain ⟨as, hr⟩ := DaAll.reads I (by simpa [PyData.hasDict] using nd) h rv
    exact ⟨_, .list e c dt (by simpa using hr)⟩
  | _, _, _, nd, .tup q h, r => by
    cases r
    obtain ⟨its, rv, ⟨o, e, c, n, dt⟩, _⟩ := I.tuple q
    obtain ⟨as, hr⟩ := DaAll.reads I (by simpa [PyData.hasDict] using nd) h rv
    exact ⟨_, .tuple e c dt (by simpa using hr)⟩
  | _, _, _, nd, .dic _ _ _ _, _ => by simp [PyData.hasDict] at nd
theorem DaAll.reads (I : Inv X pins σ H s) : ∀ {vs : List V} {ds : List PyData} {us : List Value}, PyData.hasDictAll ds = false → DaAll X.K H vs ds → Vals vs us → ∃ as, ReadsAll s.heap us ds as
  | _, _, _, _, .nil, r => by cases r; exact ⟨_, .nil⟩
  | _, _, _, nd, .cons h t, r => by
    cases r with
    | cons r1 r2 =>
      simp [PyData.hasDictAll] at nd
      obtain ⟨as, q1⟩ := Da.reads I nd.1 h r1
      obtain ⟨bs, q2⟩ := DaAll.reads I nd.2 t r2
      exact ⟨_, .cons q1 q2⟩
end
/-! a bound of a shown text's length -/
mutual
def cst : PyData → Nat
  | .none => 4 | .bool _ => 5 | .int _ => 2000 | .str x => (reprText x).length | .list ds => 3 + cstA ds | .tuple ds => 3 + cstA ds | .dict _ => 0
def cstA : List PyData → Nat
  | [] => 0 | d :: ds => cst d + 2 + cstA ds
end
end

/-! ### a def, by its body -/
abbrev startY (N : List Str) (ys : List Y) : Ro := ys.map some ++ List.replicate (N.length - ys.length) none
theorem start_rs {K : PySem.W.Frag} {G : Hp} {N : List Str} {vs : List V} {ys : List Y} (r : RVs K G vs ys) : Rs K G (L2.start N vs) (startY N ys) := by
  have rep : ∀ n : Nat, Rs K G (List.replicate n none) (List.replicate n none) := by
    intro n
    induction n with
    | zero => exact .nil
    | succ n ih => exact .cons (.any _) ih
  have app : ∀ {a : L2.St} {b : Ro} {c : L2.St} {d : Ro}, Rs K G a b → Rs K G c d → Rs K G (a ++ c) (b ++ d) := by
    intro a b c d h1 h2
    induction h1 with
    | nil => exact h2
    | cons h t ih => exact .cons h ih
  have mp : ∀ {vs : List V} {ys : List Y}, RVs K G vs ys → Rs K G (vs.map some) (ys.map some) := by
    intro vs ys h
    induction h with
    | nil => exact .nil
    | cons h t ih => exact .cons (.is h) ih
  unfold L2.start startY
  rw [r.length]
  exact app (mp r) (rep _)
abbrev WE1 (E : XK) : WX := fun c d _ H => E c d H
section
variable {pr : Program} {w : World} {K : PySem.W.Frag} {mg : Str → Option Value} {base : Heap}
abbrev cxD (pr : Program) (w : World) (K : PySem.W.Frag) (mg : Str → Option Value) (base : Heap) (N : List Str) (qual : Str) (sc : Scope) (f : Addr) (cd : Value) (A : Around) (outer : List Env) (s : Shared) (H : Hp) (E : XK) : Cx := cxOf (L2.CX pr w) pr w K mg base N qual sc f cd A outer s H E
/-- what a body's derivation may lean on -/
structure Bx (X : Cx) (W : WX) (k : Nat) : Prop where
  hr : Room k X.A
  gd : X.A.guards = some []
  tk : Takes X W
theorem Fun.dok {x qual : Str} {st : Stmt} {f : Addr} {fd : FuncData} {N ps : List Str} {k : Nat} {d : DSp} (F : Fun K x qual st f fd) (S : FnScope N ps (defScope st)) (t : XS)
    (hb : ∀ (cdv : Value) (A : Around) (outer : List Env) (s : Shared) (H : Hp) (E : XK), Bx (cxD pr w K mg base N qual (defScope st) f cdv A outer s H E) (WE1 E) k → PassesOwn (model pr w) (cxD pr w K mg base N qual (defScope st) f cdv A outer s H E).A (cxD pr w K mg base N qual (defScope st) f cdv A outer s H E).env (cxD pr w K mg base N qual (defScope st) f cdv A outer s H E).xe →
      DSs (cxD pr w K mg base N qual (defScope st) f cdv A outer s H E) (WE1 E) (defBody st) t)
    (vc : ∀ ys m F P, d ys m F P → ys.length = ps.length ∧ t { nx := fun _ m => F (.d .none) m, rt := F, ex := fun c fs _ m => P c fs m } (startY N ys) m) : FnD pr w K mg base (k + 1) f fd ps d := by
  obtain ⟨oc, od, kV, doc, pm, an, cdv, ct, osl, rfl, lk, hcd⟩ := F.ex
  refine ⟨fun ys m F P h => (vc ys m F P h).1, fun A outer s H args us vs Q E hg hr e0 hbd r hsp => ?_⟩
  obtain ⟨G, m, ys, Fy, P, rh, rv, hd, cv, cx⟩ := hsp
  obtain ⟨hl, hvc⟩ := vc ys m Fy P hd
  have hlv : vs.length = ps.length := by rw [RVs.length rv]; exact hl
  have KX : K.In s.heap := e0.mod.kin.keeps fun b o e => (e0.bs b o e).1
  have hkind : ∀ y ∈ ps.zip us, (defScope st).names.lookup y.1 = some .local ∨ ((defScope st).names.lookup y.1 = some .cell ∧ ((cellsFrom (s.heap.objs.size + 1) (defScope st).names []).lookup y.1).isSome = true) := by
    rintro ⟨n, v⟩ hy
    exact (S.par n (List.of_mem_zip hy).1).imp id fun q => ⟨q, PySem.W.cellsFrom_some _ _ _ (.inl q)⟩
  refine codeAny_call_function hr.depth (KX _ _ lk) rfl S.co S.gen rfl (PySem.W.codeRec_of KX hcd) (hbd _ _ _ _ ?_)
  refine wpAny_newFunctionEnv_cells S.kind hkind fun env he s1 x => ?_
  subst he
  refine ⟨(e0.mod.nolimit.keeps fun b o e => (e0.bs b o e).1).keeps x.toInCall.keep, codeAny_func ?_⟩
  have gd : (A.deeper (envOfC qual (defScope st) s.heap.objs.size f cdv)).guards = some [] := hg
  have hbx : Bx (cxD pr w K mg base N qual (defScope st) f cdv A outer s H E) (WE1 E) k := ⟨hr.deeper _, gd, takes_of rfl rfl rfl rfl⟩
  have I := inv_start (CX := L2.CX pr w) (E := E) S hr.hd e0 hlv r x
  have go := (hb cdv A outer s H E hbx (passes_of rfl)).run (E := { nx := fun _ H' => Q .non H', rt := Q }) (start_rs (N := N) rv) rh hvc
    ⟨fun σ r G' m H' e1 _ rh1 q => cv .non _ G' m H' e1 rh1 (.d .non) q, fun v y G' m H' e1 rh1 rv1 q => cv v y G' m H' e1 rh1 rv1 q, fun _ _ _ _ _ _ _ _ q => q.elim, fun _ _ _ _ _ _ _ _ q => q.elim,
      fun c d fs σ r G' m H' e1 _ rh1 xf q => cx c d fs G' m H' e1 rh1 xf q⟩ [] s1 I
  have fin : ∀ {s' : Shared} {σ' : L2.St} {H' : Hp} {v : V} {u : Value}, Inv (cxD pr w K mg base N qual (defScope st) f cdv A outer s H E) [] σ' H' s' → RelV v u → Q v H' → CE outer pr w H s Q u s' :=
    fun J rv q => ⟨_, _, J.os, J.bare, J.base, J.hok, rv, q⟩
  refine wpAny_mono go (fun fl s' hs => ?_) fun e s' hs => hs
  match fl, hs with
  | .ret u, ⟨v, σ', H', J, rv, q⟩ => exact fin J rv q
  | .next, ⟨σ', H', J, q⟩ => exact fin (v := V.non) (u := Value.none) J rfl q
  | .brk, ⟨_, _, _, q⟩ => exact False.elim q
  | .cont, ⟨_, _, _, q⟩ => exact False.elim q
end

/-! ### the law's end -/
def dLaw : DSp := fun ys _ F _ => ∃ ns : List Int, ys = [.r (ns.map PyData.int)] ∧ ns.length ≤ 63 ∧ ∀ m', F (.d (.bool true)) m'
theorem law_end {P : Program} {w : World} {K : PySem.W.Frag} {mg mb : Str → Option Value} {k : Nat} {fa a : Addr} {fd : FuncData} {x : Str} {z : Shared} {us : List Value} {ns : List Int}
    (KX : K.In z.heap) (hns : z.heap.Ns mainGlobals mg) (hb : z.heap.Ns builtinsNs mb) (hbb : ∀ x : Str, x ≠ "__name__" → mb x = bootBuiltins x) (hlim : z.heap.NoLimit) (hg : z.gens = #[])
    (ha : z.heap.get? a = some { cls := .type "list", data := .seq us.toArray }) (hi : IntsAre us ns) (hl : ns.length ≤ 63) (hr : Room k callerA)
    (F : ∀ base : Heap, K.In base → base.Ns mainGlobals mg → FnD P w K mg base k fa fd [x] dLaw) (hbind : ∀ (s : Shared) (u : Value), BindsTo s fd ⟨[u], []⟩ [(x, u)]) :
    codeAny (model P w) callerA (.call (.ref fa) ⟨[.ref a], []⟩) (fun r s' => r = .ok (.ret (.bool true)) ∧ OldK z.heap s'.heap ∧ s'.os = z.os ∧ AllBare s'.gens) z := by
  have rv := vals_ints hi
  have lu := hi.length
  have l63 : ns.length ≤ sizeLine := Nat.le_trans hl (by decide)
  -- whichever abstract heap tracks at most the script
  have main : ∀ H : Hp, (∀ b, H b = none ∨ (b = a ∧ K.lookup b = none ∧ ∃ o xs, H b = some (.frz o (.lst xs)))) → SqL K H a (ns.map V.int) → HOk P w H z.heap →
      codeAny (model P w) callerA (.call (.ref fa) ⟨[.ref a], []⟩) (fun r s' => r = .ok (.ret (.bool true)) ∧ OldK z.heap s'.heap ∧ s'.os = z.os ∧ AllBare s'.gens) z := by
    intro H hO hS hok
    have hide : ∀ {b : Addr} {o : Obj}, z.heap.get? b = some o → H b = none → (hidT z.heap H).get? b = some o := fun e n => hidT_get e n
    have dictFree : ∀ {b : Addr} {o : Obj} {es : Array DictEntry} {ep : Nat}, z.heap.get? b = some o → o.data = .dict es ep → H b = none := fun {b o es ep} e d => by
      rcases hO b with q | ⟨rfl, _, _⟩
      · exact q
      · rw [ha] at e
        cases e
        have d' : Data.seq us.toArray _ = Data.dict es ep := d
        cases d'
    have nsOf : ∀ {b : Addr} {mm : Str → Option Value}, z.heap.Ns b mm → (hidT z.heap H).Ns b mm := fun {b mm} ⟨o, es, ep, e, d, q⟩ => ⟨o, es, ep, hide e (dictFree e d), d, q⟩
    have kin : K.In (hidT z.heap H) := fun b o e => hide (KX b o e) (by
      rcases hO b with q | ⟨_, q, _⟩
      · exact q
      · rw [q] at e; cases e)
    have md : Mod K mg (hidT z.heap H) := ⟨kin, nsOf hns, ⟨mb, nsOf hb, hbb⟩, by obtain ⟨mc, h1, h2⟩ := hlim; exact ⟨mc, nsOf h1, h2⟩⟩
    have e0 : Env0 P w K mg (hidT z.heap H) callerA [] z H := ⟨rfl, md, fun b o e => of_hidT e, Nat.le_of_eq (hidT_size _ _), trivial, (fun b q => nomatch q), hok, .of_eq hg⟩
    have want : cz K dLaw [.ref a] H (fun v _ => v = .bl true) (fun _ _ _ => False) :=
      ⟨H, fun _ => none, [.r (ns.map PyData.int)], fun y _ => y = .d (.bool true), P0, ⟨Ex.refl H, (fun _ _ q => nomatch q), (fun _ _ q => nomatch q), (fun _ _ q => nomatch q), fun b ps e => by rcases hO b with q | ⟨_, _, o, xs, q⟩ <;> rw [q] at e <;> cases e⟩, .cons (.r hS (DaAll.ints ns)) .nil, ⟨ns, rfl, hl, fun _ => rfl⟩,
        fun v y G' m' H' _ _ rv q => by subst q; exact rv.bl, fun _ _ _ _ _ _ _ _ _ q => q.elim⟩
    refine codeAny_mono ((F _ kin (nsOf hns)).run callerA [] z H ⟨[.ref a], []⟩ [.ref a] [.ref a] _ _ rfl hr e0 (hbind z (.ref a)) (.cons rfl .nil) want) fun r s' h => ?_
    match r, h with
    | .error e, ⟨_, _, _, _, _, _, _, _, _, _, _, _, q⟩ => exact q.elim
    | .ok .next, h => exact False.elim h
    | .ok .brk, h => exact False.elim h
    | .ok .cont, h => exact False.elim h
    | .ok (.ret u), ⟨v, H', os, bare, un, hok', r', q⟩ =>
      have q' : v = .bl true := q
      subst q'
      obtain rfl : u = Value.bool true := r'
      refine ⟨rfl, OldK.of_keep fun b o e => ?_, os, bare⟩
      rcases hO b with q | ⟨_, _, ob, xs, q⟩
      · exact un.keep b o e q (fun y => nomatch y) (fun y => nomatch y)
      · obtain ⟨e1, _⟩ := hok b _ q
        obtain ⟨e2, _⟩ := hok' b _ (un.frzs b ob _ q)
        rw [e] at e1
        cases e1
        exact e2
  cases hk : K.lookup a with
  | some o =>
    have e := KX a o hk
    rw [ha] at e
    cases e
    exact main (fun _ => none) (fun _ => .inl rfl) (.inr ⟨_, us.toArray, _, hk, rfl, rfl, rfl, by rw [List.size_toArray, lu]; exact l63, by simpa using rv⟩) fun b u q => nomatch q
  | none =>
    refine main (fun b => if b = a then some (.frz { cls := .type "list", data := .seq us.toArray } (.lst (ns.map V.int))) else none) (fun b => ?_) (.inl (.inr ⟨_, if_pos rfl⟩)) (fun b u q => ?_)
    · by_cases hba : b = a
      · subst hba
        exact .inr ⟨rfl, hk, _, _, if_pos rfl⟩
      · exact .inl (if_neg hba)
    · by_cases hba : b = a
      · subst hba
        have q' := (if_pos rfl).symm.trans q
        cases q'
        exact ⟨ha, by rw [List.length_map]; exact l63, us, _, rv, ha⟩
      · have q' := (if_neg hba).symm.trans q
        cases q'
/-- what k_head leaves, from the law's promise -/
theorem walk_d {l : PySem.W.OpenLaw} {k : Nat} {q : Program} {loose : List Str} {XP : (Str → Option Value) → Heap → Prop} {YP : World → Heap → Prop} {d : DefRec} {K : Params → PySem.W.Frag} {x : Str}
    (hn : l.most = some 63) (hdf : d.params.defaults = []) (hr : Room k callerA) (hY : ∀ (w : World) (h : Heap), YP w h → (K w.params).In h)
    (F : ∀ (w : World) (mg : Str → Option Value) (fa : Addr) (h : Heap), (K w.params).In h → h.Ns mainGlobals mg → mg d.name = some (.ref fa) →
      ∃ fd : FuncData, (∀ (s : Shared) (u : Value), BindsTo s fd ⟨[u], []⟩ [(x, u)]) ∧ ∀ base : Heap, (K w.params).In base → base.Ns mainGlobals mg → FnD l.prog w (K w.params) mg base k fa fd [x] dLaw) :
    PySem.W.WalkO q loose XP YP l.row.toRowW d [] (fun f vs => PySem.call f vs) := by
  refine Att.attach_call hn hdf fun w s₀ s₁ mg mb fa o pm cd doc a vs ns G Y ho hd hcd hmg hobj hints hlen hg => ?_
  have kx := hY w _ Y
  obtain ⟨fd, hb, hF⟩ := F w mg fa _ kx G.T.g hmg
  exact law_end kx G.T.g G.T.b G.T.builtins G.T.nolimit hg hobj hints hlen hr hF hb
end Dl
/-! D9: repr, sorted, methods of lists, exceptions. -/
namespace Dl
open PySem PySem.Spec PyProof.Rows L2 Evl

section
variable {X : Cx} {W : WX} {K : PySem.W.Frag} {G H : Hp} {m : Mu} {e o : Expr} {es : List Expr} {pos : Pos}
mutual
theorem cst_ok : ∀ d : PyData, d.showable = true → d.hasDict = false → d.shown.length ≤ cst d
  | .none, _, _ => by simp only [PyData.shown, cst]; decide
  | .bool b, _, _ => by cases b <;> (simp only [PyData.shown, cst]; decide)
  | .int i, h, _ => by
    have h' : i.natAbs.log2 < 1920 := by simpa [PyData.showable] using h
    simp only [PyData.shown, cst]
    have z := int_text_length_le (by decide) h'
    show (Str.ofString (toString i)).length ≤ 2000
    rw [PySem.ofString_length]
    omega
  | .str x, _, _ => by simp only [PyData.shown, cst]; exact Nat.le_refl _
  | .list ds, h, n => by
    simp only [PyData.shown, cst]
    have z := listText_len_le (PyData.shownAll ds)
    have y := cstA_ok ds (by simpa [PyData.showable] using h) (by simpa [PyData.hasDict] using n)
    omega
  | .tuple ds, h, n => by
    simp only [PyData.shown, cst]
    have z := tupleText_len_le (PyData.shownAll ds)
    have y := cstA_ok ds (by simpa [PyData.showable] using h) (by simpa [PyData.hasDict] using n)
    omega
  | .dict _, _, n => by simp [PyData.hasDict] at n
theorem cstA_ok : ∀ ds : List PyData, PyData.showableAll ds = true → PyData.hasDictAll ds = false → ((PyData.shownAll ds).map (·.length)).sum + 2 * (PyData.shownAll ds).length ≤ cstA ds
  | [], _, _ => by simp [PyData.shownAll, cstA]
  | d :: ds, h, n => by
    simp [PyData.showableAll] at h
    simp [PyData.hasDictAll] at n
    have z := cst_ok d h.1 n.1
    have y := cstA_ok ds h.2 n.2
    simp only [PyData.shownAll, cstA, List.map_cons, List.sum_cons, List.length_cons]
    omega
end
/-- what repr shows -/
abbrev xRepr : XRC := fun ys m F => ∃ d, ys = [.d d] ∧ d.showable = true ∧ d.hasDict = false ∧ d.depth ≤ 40 ∧ cst d ≤ 10000000 ∧ F (.d (.str d.shown)) m
theorem cd_repr (hg : X.A.guards = some []) (hu : X.A.units + 64 < cLine) : CallD X (.builtin "repr") xRepr := by
  refine ⟨fun vs H Q => ∃ v d, vs = [v] ∧ Da X.K H v d ∧ d.showable = true ∧ d.hasDict = false ∧ d.depth ≤ 40 ∧ d.shown.length ≤ sizeLine ∧ Q (.str d.shown) H, ?_, fun {G m H vs ys F Q} rh rv hx cv => ?_⟩
  · intro pins s σ H vs us Q I r ⟨v, d, ev, hd, h1, h2, h3, h4, q⟩
    subst ev
    obtain ⟨u, rfl, ru⟩ := vals1 r
    obtain ⟨as, rd⟩ := Da.reads I h2 hd ru
    cases hd with
    | non => cases ru; exact PySem.P.repr_of_none ⟨.str _, H, I.tok _, ⟨_, rfl⟩, q⟩
    | bl b => cases ru; exact PySem.P.repr_of_bool ⟨.str _, H, I.tok _, ⟨_, rfl⟩, q⟩
    | int i =>
      obtain ⟨t, rfl⟩ := ru
      exact PySem.P.repr_of_int (by simpa [PyData.showable] using h1) ⟨.str _, H, I.tok _, ⟨_, rfl⟩, q⟩
    | str x =>
      obtain ⟨t, rfl⟩ := ru
      exact PySem.P.repr_of_str ⟨.str _, H, I.tok _, ⟨_, rfl⟩, q⟩ h4
    | lst _ _ =>
      cases ru
      exact repr_of_reads' rd h1 (PyData.noDict_hsm h2) hg (by omega) (fun _ _ z => z) (fun h' t tk k => ⟨.str _, H, I.kept k, ⟨_, rfl⟩, q⟩) h4
    | tup _ _ =>
      cases ru
      exact repr_of_reads' rd h1 (PyData.noDict_hsm h2) hg (by omega) (fun _ _ z => z) (fun h' t tk k => ⟨.str _, H, I.kept k, ⟨_, rfl⟩, q⟩) h4
    | dic _ _ _ _ => simp [PyData.hasDict] at h2
  · obtain ⟨d, rfl, h1, h2, h3, h4, f⟩ := hx
    obtain ⟨v, rfl, rw⟩ := rvs1 rv
    exact ⟨v, d, rfl, rw.da.mono rh.sub, h1, h2, h3, Nat.le_trans (cst_ok d h1 h2) (Nat.le_trans h4 (by decide)), cv.at rh (.d (.str _)) f⟩

/-! ### sorted, of pairs of ints -/
def lexLe (p q : Int × Int) : Bool := !SrtO.lexB q p
theorem lexLe_trans (a b c : Int × Int) (h1 : lexLe a b = true) (h2 : lexLe b c = true) : lexLe a c = true := by
  unfold lexLe at *
  simp only [Bool.not_eq_true'] at *
  have x := SrtO.lexB_no.mp h1
  have y := SrtO.lexB_no.mp h2
  refine SrtO.lexB_no.mpr ?_
  omega
theorem lexLe_total (a b : Int × Int) : (lexLe a b || lexLe b a) = true := by
  unfold lexLe
  cases q : SrtO.lexB b a with
  | false => simp
  | true =>
    have x := SrtO.lexB_iff.mp q
    have y : SrtO.lexB a b = false := SrtO.lexB_no.mpr (by omega)
    simp [y]
theorem lexLe_anti (a b : Int × Int) (h1 : lexLe a b = true) (h2 : lexLe b a = true) : a = b := by
  unfold lexLe at *
  simp only [Bool.not_eq_true'] at *
  have x := SrtO.lexB_no.mp h1
  have y := SrtO.lexB_no.mp h2
  exact Prod.ext (by omega) (by omega)
def srt (ps : List (Int × Int)) : List (Int × Int) := ps.mergeSort lexLe
theorem srt_uniq {ps qs : List (Int × Int)} (h : qs.Pairwise fun a b => lexLe a b = true) (p : qs.Perm ps) : srt ps = qs := by
  have s1 : (srt ps).Pairwise fun a b => lexLe a b = true := List.pairwise_mergeSort lexLe_trans lexLe_total ps
  have p1 : (srt ps).Perm qs := (List.mergeSort_perm ps lexLe).trans p.symm
  exact p1.eq_of_pairwise (fun a b _ _ h1 h2 => lexLe_anti a b h1 h2) s1 h
def prD (p : Int × Int) : PyData := .tuple [.int p.1, .int p.2]
abbrev xSorted : XRC := fun ys m F => ∃ (ps : List (Int × Int)), ys = [.d (.list (ps.map prD))] ∧ F (.d (.list ((srt ps).map prD))) m
def PrV (K : PySem.W.Frag) (H : Hp) (x : V) (p : Int × Int) : Prop := ∃ t, x = .ref t ∧ SqT K H t [.int p.1, .int p.2]
theorem pr_das : ∀ {vs : List V} {ps : List (Int × Int)}, DaAll K H vs (ps.map prD) → Paired (PrV K H) vs ps
  | [], [], .nil => .nil
  | v :: vs, p :: ps, .cons h t => .cons (by
      cases h with
      | tup s q =>
        cases q with
        | cons q1 q2 =>
          cases q2 with
          | cons q3 q4 => cases q4; cases q1; cases q3; exact ⟨_, rfl, s⟩) (pr_das t)
theorem das_pr : ∀ {vs : List V} {ps : List (Int × Int)}, Paired (PrV K H) vs ps → DaAll K H vs (ps.map prD)
  | _, _, .nil => .nil
  | _, _, .cons ⟨t, e, s⟩ r => .cons (by subst e; exact .tup s (.cons (.int _) (.cons (.int _) .nil))) (das_pr r)
theorem PrV.mono {H' : Hp} (e : Ex H H') {x : V} {p : Int × Int} (h : PrV K H x p) : PrV K H' x p := by
  obtain ⟨t, e1, s⟩ := h
  exact ⟨t, e1, ex_t e s⟩
open Classical in
theorem cd_sorted : CallD X (.builtin "sorted") xSorted := by
  refine ⟨fun vs H Q => ∃ a xs ps, vs = [V.ref a] ∧ SqL X.K H a xs ∧ Paired (PrV X.K H) xs ps ∧ ∀ (zs : List (V × Int × Int)) d, H d = none → zs.Perm (xs.zip ps) → zs.map (·.2) = srt ps → Q (.ref d) (upd H d (.lst (zs.map (·.1)))), ?_, fun {G m H vs ys F Q} rh rv hx cv => ?_⟩
  · intro pins s σ H vs us Q I r ⟨a, xs, ps, ev, hs, hp, q⟩
    subst ev
    obtain ⟨its, rv, hl, hz⟩ := I.list hs
    obtain ⟨u, rfl, ru⟩ := vals1 r
    obtain rfl : u = Value.ref a := ru
    have uniq : ∀ (v : Value) (p q : Int × Int), Srt.IsPair s.heap v p.1 p.2 → Srt.IsPair s.heap v q.1 q.2 → p = q := by
      rintro v p q ⟨a1, o1, t1, u1, n1, e1, h1, c1, d1⟩ ⟨a2, o2, t2, u2, n2, e2, h2, c2, d2⟩
      rw [e1] at e2
      cases e2
      rw [h1] at h2
      cases h2
      rw [d1] at d2
      simp only [Data.seq.injEq, Array.mk.injEq, List.cons.injEq, Value.int.injEq] at d2
      exact Prod.ext d2.1.1.1 d2.1.2.1.1
    have isP : ∀ {x : V} {v : Value} {p : Int × Int}, PrV X.K H x p → RelV x v → Srt.IsPair s.heap v p.1 p.2 ∧ x = backV v ∧ ∃ b, v = Value.ref b := by
      rintro x v p ⟨t, rfl, st⟩ r
      cases r
      obtain ⟨js, rj, ⟨o, ho, hc, n, hd⟩, _⟩ := I.tuple st
      obtain ⟨u1, u2, rfl, r1, r2⟩ := vals2 rj
      obtain ⟨t1, rfl⟩ := r1
      obtain ⟨t2, rfl⟩ := r2
      exact ⟨⟨t, o, t1, t2, n, rfl, ho, hc, hd⟩, rfl, t, rfl⟩
    let k : Value → Int × Int := fun v => if h : ∃ p : Int × Int, Srt.IsPair s.heap v p.1 p.2 then h.choose else (0, 0)
    have kOf : ∀ {v : Value} {p : Int × Int}, Srt.IsPair s.heap v p.1 p.2 → k v = p := fun {v p} h => by
      have ex : ∃ p : Int × Int, Srt.IsPair s.heap v p.1 p.2 := ⟨p, h⟩
      show (if h : ∃ p : Int × Int, Srt.IsPair s.heap v p.1 p.2 then h.choose else (0, 0)) = p
      rw [dif_pos ex]
      exact uniq v _ _ ex.choose_spec h
    have all3 : ∀ {xs : List V} {ps : List (Int × Int)} {its : List Value}, Paired (PrV X.K H) xs ps → Vals xs its → xs.zip ps = its.map (fun v => (backV v, k v)) ∧ ps = its.map k ∧ (∀ v ∈ its, Srt.IsPair s.heap v (k v).1 (k v).2) ∧ ∀ v ∈ its, ∃ b, v = Value.ref b := by
      intro xs ps its hp
      induction hp generalizing its with
      | nil => intro r; cases r; exact ⟨rfl, rfl, (fun v h => nomatch h), (fun v h => nomatch h)⟩
      | cons h t ih =>
        intro r
        cases r with
        | cons r1 r2 =>
          obtain ⟨i0, i1, i2, i3⟩ := ih r2
          obtain ⟨ip, ex, eb⟩ := isP h r1
          have ek := kOf ip
          refine ⟨by rw [List.zip_cons_cons, List.map_cons, ← i0, ek, ← ex], by rw [List.map_cons, ← i1, ek], fun v hv => ?_, fun v hv => ?_⟩
          · rcases List.mem_cons.mp hv with rfl | hv
            · rw [ek]; exact ip
            · exact i2 v hv
          · rcases List.mem_cons.mp hv with rfl | hv
            · exact eb
            · exact i3 v hv
    obtain ⟨ez, ek, hpair, href⟩ := all3 hp rv
    refine SrtO.sorted_pairsO (k := k) hl.isList (by rw [← rv.length]; exact hz) hpair fun h' d out h1 h2 kp hd hn => ?_
    obtain ⟨n, hn⟩ := hn
    have eo : srt ps = out.map k := by
      refine srt_uniq ?_ (by rw [ek]; exact h2.perm.map k)
      refine List.pairwise_map.mpr (h1.imp fun {a b} hab => ?_)
      have hab' : SrtO.lexB (k b) (k a) = false := hab
      unfold lexLe
      rw [hab']
      rfl
    have ho : ∀ u ∈ out, ∃ b, u = Value.ref b := fun u hu => href u (h2.perm.mem_iff.mp hu)
    have fm : (out.map fun v => (backV v, k v)).map (·.1) = out.map backV := by rw [List.map_map]; rfl
    have sm : (out.map fun v => (backV v, k v)).map (·.2) = out.map k := by rw [List.map_map]; rfl
    have ly : (out.map backV).length ≤ sizeLine := by
      rw [List.length_map, h2.perm.length_eq, ← rv.length]
      exact hz
    have fin := q (out.map fun v => (backV v, k v)) d (I.hok.fresh hd) (by rw [ez]; exact h2.perm.map _) (by rw [sm, eo])
    rw [fm] at fin
    exact ⟨.ref d, upd H d (.lst (out.map backV)), I.laid (t' := s.toks) kp hd ⟨ly, out, n, vals_back ho, hn⟩, rfl, fin⟩
  · obtain ⟨ps, rfl, f⟩ := hx
    obtain ⟨v, rfl, rw⟩ := rvs1 rv
    obtain ⟨p, ws, rfl, s1, q1⟩ := rw.lst
    have hp : Paired (PrV X.K G) ws ps := pr_das q1
    refine ⟨p, ws, ps, rfl, .inl (rd_sub rh s1), pr_das (q1.mono rh.sub), fun zs d hd hz hs => ?_⟩
    have mem : ∀ {ws : List V} {ps : List (Int × Int)}, Paired (PrV X.K G) ws ps → ∀ z ∈ ws.zip ps, PrV X.K G z.1 z.2 := by
      intro ws ps h
      induction h with
      | nil => intro z hz; exact nomatch hz
      | cons h t ih =>
        intro z hz
        rw [List.zip_cons_cons] at hz
        rcases List.mem_cons.mp hz with rfl | hz
        · exact h
        · exact ih z hz
    have back : ∀ {zs : List (V × Int × Int)}, (∀ z ∈ zs, PrV X.K G z.1 z.2) → Paired (PrV X.K G) (zs.map (·.1)) (zs.map (·.2)) := by
      intro zs
      induction zs with
      | nil => intro _; exact .nil
      | cons z zs ih => intro h; exact .cons (h z (by simp)) (ih fun x hx => h x (by simp [hx]))
    have r1 := das_pr (back fun z h => mem hp z (hz.mem_iff.mp h))
    rw [hs] at r1
    exact lstD_ok rh r1.rvs hd f cv
end
end Dl
/-! D10: methods of lists, raise, try. -/
namespace Dl
open PySem PySem.Spec PyProof.Rows L2 Evl

section
variable {X : Cx} {W : WX} {K : PySem.W.Frag} {G H : Hp} {m : Mu} {e o : Expr} {es : List Expr} {pos : Pos} {to : XE} {t : XA} {te : XE}
/-! ### methods of built-in types -/
abbrev XRM := Y → List Y → Mu → (Y → Mu → Prop) → Prop
abbrev TyM (T : String) (m : Mu) : Y → Prop
  | .d (.str _) => T = "str"
  | .d (.list _) => T = "list"
  | .r _ => T = "list"
  | .l p => (T = "list" ∧ ∃ ys, m p = some (.lst ys)) ∨ (T = "dict" ∧ ∃ ys, m p = some (.dic ys))
  | _ => False
theorem tyM_ok {T : String} {v : V} {y : Y} (rh : Rh K G m H) (rv : RV K G v y) (h : TyM T m y) : tyV K T v H := by
  cases rv with
  | d q =>
    cases q with
    | str x => exact h
    | lst r q => exact .inl ⟨h, _, .inl (rd_sub rh r)⟩
    | _ => exact h.elim
  | l p =>
    rcases h with ⟨h, ys, e⟩ | ⟨h, ys, e⟩
    · obtain ⟨ws, e1, _⟩ := rh.lst e
      exact .inl ⟨h, ws, SqL.of e1⟩
    · obtain ⟨ws, e1, _⟩ := rh.dic e
      exact .inr (.inr (.inl ⟨h, .inl ⟨ws, e1⟩⟩))
  | v x => exact h.elim
  | r s q => exact .inl ⟨h, _, ex_l rh.sub s⟩
def MtD (X : Cx) (id : String) (xr : XRM) : Prop := ∃ r, MtR X id r ∧
  ∀ {G : Hp} {m : Mu} {H : Hp} {v : V} {y : Y} {vs : List V} {ys : List Y} {F : Y → Mu → Prop} {Q : VK}, Rh X.K G m H → RV X.K G v y → RVs X.K G vs ys → xr y ys m F → CvE X.K G F Q → r v vs H Q
abbrev xBM (T : String) (xr : XRM) (to : XE) (t : XA) : XE := fun r m F P => to r m (fun y m1 => TyM T m1 y ∧ t r m1 (fun ys m2 => xr y ys m2 F) P) P
theorem de_bm {T id : String} {name : Str} {apos : Pos} {xr : XRM} (hm : MtD X id xr) (pa : PlainAttrs T) (slot : Slot T name id) (hty : typeOf (.builtin id) = pure (.type "method_descriptor")) (ho : DE X W o to) (ha : DA X W (e :: es) t)
    (hbase : attributeBase o name X.env (eval o X.env) = eval o X.env := by rfl)
    (hfew : ((backTo pos (starEach (e :: es) X.env)).all (fun x => !x.1) && (backToKw pos (keywordEach [] X.env)).all (fun x => x.1.isSome) && decide ((e :: es).length + ([] : List Keyword).length + (if ([] : List Keyword).isEmpty then 0 else 1) < 30)) = true := by rfl)
    (hline : (apos.endLine == pos.line) = true := by rfl) (hs : starEach (e :: es) X.env = (false, eval e X.env) :: starEach es X.env := by rfl) (hplain : (backTo pos (starEach es X.env)).any (·.1) = false := by rfl) :
    DE X W (.Call (.Attribute o name apos) (e :: es) [] pos) (xBM T xr to t) := ⟨fun {G r m σ H F P Q} rs rh hx cv cx => by
  obtain ⟨r1, g1, g2⟩ := hm
  exact se_of (pe_bm pa slot hty g1 se_pe sa_pa hbase hfew hline hs hplain) (ho.run rs rh hx (fun v y G1 m1 H1 e1 rh1 rv1 ⟨q1, q2⟩ => ⟨tyM_ok rh1 rv1 q1,
    ha.run (rs.mono e1) rh1 q2 (fun vs ys G2 m2 H2 e2 rh2 rv2 q3 => g2 rh2 (rv1.mono e2) rv2 q3 (cv.mono (e1.trans e2))) (cx.mono e1)⟩) cx)⟩
theorem de_bm0 {T id : String} {name : Str} {apos : Pos} {xr : XRM} (hm : MtD X id xr) (pa : PlainAttrs T) (slot : Slot T name id) (hty : typeOf (.builtin id) = pure (.type "method_descriptor")) (ho : DE X W o to)
    (hbase : attributeBase o name X.env (eval o X.env) = eval o X.env := by rfl) (hline : (apos.endLine == pos.line) = true := by rfl) : DE X W (.Call (.Attribute o name apos) [] [] pos) (xBM T xr to xNil) := ⟨fun {G r m σ H F P Q} rs rh hx cv cx => by
  obtain ⟨r1, g1, g2⟩ := hm
  exact se_of (pe_bm0 pa slot hty g1 se_pe hbase hline) (ho.run rs rh hx (fun v y G1 m1 H1 e1 rh1 rv1 ⟨q1, q2⟩ => ⟨tyM_ok rh1 rv1 q1, g2 rh1 rv1 .nil q2 (cv.mono e1)⟩) cx)⟩
abbrev xAppend : XRM := fun y ys m F => ∃ p zs z, y = .l p ∧ ys = [z] ∧ m p = some (.lst zs) ∧ zs.length < 10000 ∧ F (.d .none) (mu m p (.lst (zs ++ [z])))
theorem md_append : MtD X "list.append" xAppend := ⟨_, mt_append, fun {G m H v y vs ys F Q} rh rv rvs ⟨p, zs, z, e1, e2, h1, h2, f⟩ cv => by
  subst e1 e2
  obtain ⟨w, rfl, rw⟩ := rvs1 rvs
  cases rv.loc
  obtain ⟨ws, e3, q⟩ := rh.lst h1
  exact ⟨p, ws, w, rfl, rfl, e3, by rw [q.length]; exact Nat.lt_of_lt_of_le h2 szl, cv .non _ G _ _ (Ex.refl G) (rh.write h1 (.lst (q.app (.cons rw .nil)))) (.d .non) f⟩⟩
abbrev xPopAt : XRM := fun y ys m F => ∃ p zs i k z, y = .l p ∧ ys = [.d (.int i)] ∧ m p = some (.lst zs) ∧ -(2 ^ 63) ≤ i ∧ i < 2 ^ 63 ∧ seqIndex? i zs.length = some k ∧ zs[k]? = some z ∧ F z (mu m p (.lst (zs.eraseIdx k)))
theorem md_popAt : MtD X "list.pop" xPopAt := ⟨_, mt_popAt, fun {G m H v y vs ys F Q} rh rv rvs ⟨p, zs, i, k, z, e1, e2, h1, h2, h3, h4, h5, f⟩ cv => by
  subst e1 e2
  obtain ⟨w, rfl, rw⟩ := rvs1 rvs
  cases rv.loc
  obtain ⟨ws, e3, q⟩ := rh.lst h1
  obtain ⟨u, hu, ru⟩ := RVs.get q h5
  exact ⟨p, ws, i, k, u, rfl, by rw [rw.int], e3, h2, h3, by rw [q.length]; exact h4, hu, cv u z G _ _ (Ex.refl G) (rh.write h1 (.lst (RVs.eraseIdx k q))) ru f⟩⟩
/-- xs.extend(ys) -/
abbrev xExtend : XRM := fun y ys m F => ∃ p zs z us, y = .l p ∧ ys = [z] ∧ m p = some (.lst zs) ∧ LsY m z us ∧ zs.length + us.length ≤ 10000 ∧ F (.d .none) (mu m p (.lst (zs ++ us)))

/-! ### raise -/
abbrev xRaise (C : Addr) (t : XE) : XS := fun D r m => t r m (fun _ m1 => D.ex (.ref C) [] r m1) (D.at r)
theorem ds_raise {C : Addr} {bmB : List Value} {B newId initId : String} {x : Str} {p pos' : Pos} (hc : X.calm = true) (tk : Takes X W) (F : ExcBaseFacts B newId initId bmB) (q : PySem.W.excIn X.K C bmB newId = true) (gC : X.mg x = some (.ref C)) (kC : PySem.W.keepIn X.K (.ref C) = true) (rs' : Raises X (.ref C)) (hg : Gl X x)
    (he : DE X W e te) (hs : starEach [e] X.env = (false, eval e X.env) :: starEach [] X.env := by rfl) (hdb : (x == ("__debug__" : Str)) = false := by decide) : DS X W (.Raise (some (.Call (.Name x p) [e] [] pos)) none pos') (xRaise C te) := ⟨fun {G r m σ H D E} rs rh hx f =>
  ss_of (ps_raise hc tk (SkE.pmk_own1 F q gC kC rs' hg se_pe hs hdb)) (he.run rs rh hx (fun v y G1 m1 H1 e1 rh1 rv1 q1 => f.ex _ none [] σ r G1 m1 H1 e1 (rs.mono e1) rh1 (.inl ⟨rfl, rfl⟩) q1) (f.cx rs))⟩

/-! ### try: .. except X: -/
def TSof (K : PySem.W.Frag) (W : WX) (t : XS) : TS := fun E σ H => ∃ G r m D, Rs K G σ r ∧ Rh K G m H ∧ t D r m ∧ Fits K W G D E
theorem tsof_pss {sts : List Stmt} {t : XS} (h : DSs X W sts t) : PSs X sts (TSof X.K W t) := ⟨fun pins s σ H E I ⟨G, r, m, D, rs, rh, q, f⟩ => h.run rs rh q f pins s I⟩
abbrev xTry (K : PySem.W.Frag) (c : Value) (tb ts : XS) : XS := fun D r m => tb { D with ex := fun cls fs r1 m1 => ∃ b, PySem.W.exmOne K cls c = some b ∧ (b = true → ts { D with ex := fun _ _ _ _ => False } r1 m1) ∧ (b = false → D.ex cls fs r1 m1) } r m
theorem ds_try {x : Str} {c : Value} {body suite : List Stmt} {b0 : Stmt} {np pos' : Pos} {tb ts : XS} (hs : X.stack = X.env :: X.outer) (hf : X.env.frame = some X.env.locals) (hc : Names X x c) (tk : Takes X W)
    (hb : ∀ (W' : WX) (pn : List (Addr × Obj)) (xe : Value → Shared → Prop), Takes (X.tr pn xe) W' → PassesOwn (model X.prog X.w) X.A X.env xe → DSs (X.tr pn xe) W' body tb)
    (hsu : ∀ (a : Addr) (oe : Obj) (cls : Value) (d : Option Addr) (pn : List (Addr × Obj)), Zc cls d oe → (∃ vs, oe.data = .fields vs) → DSs (X.suite a ((a, oe) :: pn)) W0 (b0 :: suite) ts) :
    DS X W (.Try body [.ExceptHandler (some (.Name x np)) none (b0 :: suite) pos'] [] [] pos) (xTry X.K c tb ts) := ⟨fun {G r m σ H D E} rs rh hx f =>
  ss_of (ps_try_only (tb := fun W' => TSof X.K W' tb) (ts := fun _ _ _ => TSof X.K W0 ts) hs hf hc tk (fun W' pn xe h1 h2 => tsof_pss (hb W' pn xe h1 h2)) (fun a oe cls d pn h1 h2 => tsof_pss (hsu a oe cls d pn h1 h2)))
    ⟨G, r, m, _, rs, rh, hx, ⟨f.nx, f.rt, f.bk, f.ct, fun cls d fs σ1 r1 G1 m1 H1 e1 rs1 rh1 xf ⟨b, q1, q2, q3⟩ => ⟨b, q1, fun hb a ha => ⟨G1, r1, m1, _, rs1, rh1, q2 hb, ⟨(f.mono e1).nx, (f.mono e1).rt, (f.mono e1).bk, (f.mono e1).ct, fun _ _ _ _ _ _ _ _ _ _ _ _ z => z.elim⟩⟩, fun hb => f.ex cls d fs σ1 r1 G1 m1 H1 e1 rs1 rh1 xf (q3 hb)⟩⟩⟩⟩
/-- an error of the class at C is what «except C» names -/
theorem exm_same {C : Addr} (h1 : PySem.W.subIn K (.ref C) (.type "BaseException") = some true) (h2 : PySem.W.kitCls K (.ref C) (.ref C) = some true) : PySem.W.exmOne K (.ref C) (.ref C) = some true := by
  unfold PySem.W.exmOne
  rw [h1]
  exact h2
end
end Dl
/-! D11: texts put together, minus, calls by what is known of a def, comprehensions by what they collect. -/
namespace Dl
open PySem PySem.Spec PyProof.Rows L2 Evl

section
variable {X : Cx} {W : WX} {K : PySem.W.Frag} {G H : Hp} {m : Mu} {e o : Expr} {es : List Expr} {pos : Pos} {to ta te tb : XE} {t : XA} {k j : Nat}
/-! ### -x -/
abbrev xNeg (ta : XE) : XE := fun r m F P => ta r m (fun y m1 => ∃ i : Int, y = .d (.int i) ∧ F (.d (.int (-i))) m1) P
theorem de_neg (h : DE X W e ta) : DE X W (.UnaryOp .USub e pos) (xNeg ta) := ⟨fun {G r m σ H F P Q} rs rh hx cv cx =>
  se_of (pe_un un_neg se_pe) (h.run rs rh hx (fun v y G1 m1 H1 e1 rh1 rv1 ⟨i, q, f⟩ => by
    subst q
    exact ⟨i, rv1.int, cv _ _ G1 m1 H1 e1 rh1 (.d (.int _)) f⟩) cx)⟩
/-! ### f-strings: the text is known -/
def fmtY : Y → Option Str
  | .d (.str x) => if x.length ≤ 2000 then some x else none
  | .d (.int i) => if i.natAbs.log2 < 1920 then some (Str.ofString (toString i)) else none
  | _ => none
inductive DJ (X : Cx) (W : WX) : List Expr → List XE → Prop
  | nil : DJ X W [] []
  | str {x : Str} {j : Nat} {p : Pos} {es : List Expr} {ts : List XE} : DJ X W es ts → DJ X W (.Constant (.str x) j p :: es) (xC (.d (.str x)) :: ts)
  | fmt {e : Expr} {p : Pos} {te : XE} {es : List Expr} {ts : List XE} : DE X W e te → DJ X W es ts → DJ X W (.FormattedValue e (-1) none p :: es) (te :: ts)
def xJ : List XE → Str → Ro → Mu → (Str → Mu → Prop) → XP → Prop
  | [], acc, _, m, F, _ => F acc m
  | t :: ts, acc, r, m, F, P => t r m (fun y m1 => ∃ x, fmtY y = some x ∧ (acc ++ x).length ≤ 10000 ∧ xJ ts (acc ++ x) r m1 F P) P
def SJ (X : Cx) (es : List Expr) (ts : List TE) : Prop := PJ X es ts
theorem fmt_len {y : Y} {x : Str} (h : fmtY y = some x) : x.length ≤ 2000 := by
  unfold fmtY at h
  split at h
  · split at h
    · cases h; assumption
    · cases h
  · split at h
    · cases h
      rename_i i q
      have z := int_text_length_le (by decide) q
      rw [PySem.ofString_length]
      omega
    · cases h
  · cases h
theorem fmt_ok {v : V} {y : Y} {x : Str} {Q : V → Hp → Prop} (rv : RV K G v y) (h : fmtY y = some x) (q : Q (V.str x) H) :
    (∃ y, v = V.str y ∧ y.length ≤ sizeLine ∧ Q (V.str y) H) ∨ ∃ i, v = V.int i ∧ i.natAbs.log2 < 1920 ∧ Q (V.str (Str.ofString (toString i))) H := by
  unfold fmtY at h
  split at h
  · split at h
    · cases h
      rename_i z
      exact .inl ⟨_, rv.str, Nat.le_trans z (by decide), q⟩
    · cases h
  · split at h
    · cases h
      rename_i z
      exact .inr ⟨_, rv.int, z, q⟩
    · cases h
  · cases h
theorem dj_ok {es : List Expr} {xs : List XE} (h : DJ X W es xs) : ∃ ts : List TE, PJ X es ts ∧ ∀ {G : Hp} {r : Ro} {m : Mu} {σ : L2.St} {H : Hp} {F : Str → Mu → Prop} {P : XP} {Q : Str → Hp → Prop} (acc : Str), Rs X.K G σ r → Rh X.K G m H → xJ xs acc r m F P →
    (∀ x G' m' H', Ex G G' → Rh X.K G' m' H' → F x m' → Q x H') → CvX X.K G P (WEx W σ) → tJs ts acc σ H Q := by
  induction h with
  | nil => exact ⟨[], .nil, fun acc rs rh hx cv cx => cv acc _ _ _ (Ex.refl _) rh hx⟩
  | @str x j p es xs hj ih =>
    obtain ⟨ts, h1, h2⟩ := ih
    refine ⟨_ :: ts, .cons pe_str h1, fun {G r m σ H F P Q} acc rs rh hx cv cx => ?_⟩
    obtain ⟨y, e1, e2, q⟩ := hx
    have e1' : (if x.length ≤ 2000 then some x else none) = some y := e1
    split at e1'
    · cases e1'
      exact ⟨x, rfl, Nat.le_trans e2 szl, h2 _ rs rh q cv cx⟩
    · cases e1'
  | @fmt e p te es xs he hj ih =>
    obtain ⟨ts, h1, h2⟩ := ih
    refine ⟨_ :: ts, .cons (pe_fmt se_pe) h1, fun {G r m σ H F P Q} acc rs rh hx cv cx => ?_⟩
    refine he.run rs rh hx (fun v y G1 m1 H1 e1 rh1 rv1 ⟨x, q1, q2, q3⟩ => ?_) cx
    refine fmt_ok (Q := fun v H1 => ∃ y, v = V.str y ∧ (acc ++ y).length ≤ sizeLine ∧ tJs ts (acc ++ y) σ H1 Q) rv1 q1 ⟨x, rfl, Nat.le_trans q2 szl, ?_⟩
    exact h2 _ (rs.mono e1) rh1 q3 (fun x G' m' H' e' => cv x G' m' H' (e1.trans e')) (cx.mono e1)
abbrev xJs (ts : List XE) : XE := fun r m F P => xJ ts Str.empty r m (fun x m1 => F (.d (.str x)) m1) P
theorem de_fstr {e1 e2 : Expr} {xs : List XE} (h : DJ X W (e1 :: e2 :: es) xs) : DE X W (.JoinedStr (e1 :: e2 :: es) pos) (xJs xs) := ⟨fun {G r m σ H F P Q} rs rh hx cv cx => by
  obtain ⟨ts, h1, h2⟩ := dj_ok h
  exact se_of (pe_joined h1) (h2 _ rs rh hx (fun x G' m' H' e' rh' f => cv _ _ G' m' H' e' rh' (.d (.str x)) f) cx)⟩

/-! ### calls by what is known -/
structure GF (pr : Program) (w : World) (K : PySem.W.Frag) (mg : Str → Option Value) (base : Heap) (x : Str) (k : Nat) (f : Addr) (fd : FuncData) (ps : List Str) (d : DSp) : Prop where
  fn : FnD pr w K mg base k f fd ps d
  bn : Binds K fd ps []
  gm : mg x = some (.ref f)
  kp : PySem.W.keepIn K (.ref f) = true
structure MF (pr : Program) (w : World) (K : PySem.W.Frag) (mg : Str → Option Value) (base : Heap) (C : Addr) (x : Str) (k : Nat) (f : Addr) (fd : FuncData) (ps : List Str) (d : DSp) : Prop where
  fn : FnD pr w K mg base k f fd ps d
  bn : Binds K fd ps []
  cl : Cls K C
  mt : Meth K C x f
structure PF (pr : Program) (w : World) (K : PySem.W.Frag) (mg : Str → Option Value) (base : Heap) (C : Addr) (x : Str) (k : Nat) (p f : Addr) (fd : FuncData) (ps : List Str) (d : DSp) : Prop where
  fn : FnD pr w K mg base k f fd ps d
  bn : Binds K fd ps []
  cl : Cls K C
  pr' : PropOf K C x p f
structure NF (pr : Program) (w : World) (K : PySem.W.Frag) (mg : Str → Option Value) (base : Heap) (x : Str) (C : Addr) (k : Nat) (f : Addr) (fd : FuncData) (ps : List Str) (d : DSp) : Prop where
  fn : FnD pr w K mg base k f fd ps d
  bn : Binds K fd ps []
  gm : mg x = some (.ref C)
  mk' : Mk K C f
section
variable {f C pa : Addr} {fd : FuncData} {ps : List Str} {d : DSp} {x : Str} {p apos : Pos}
theorem de_gf (F : GF X.prog X.w X.K X.mg X.base x k f fd ps d) (hr : Room j X.A) (hgd : X.A.guards = some []) (tk : Takes X W) (hg : Gl X x) (ha : DA X W (e :: es) t) (hk : k ≤ j := by decide) (hdb : (x == ("__debug__" : Str)) = false := by decide) (he : starEach (e :: es) X.env = (false, eval e X.env) :: starEach es X.env := by rfl)
    (hpl : (backTo pos (starEach es X.env)).any (·.1) = false := by rfl) : DE X W (.Call (.Name x p) (e :: es) [] pos) (xCall d [] t) :=
  de_call F.fn (hr.mono hk) hgd tk hg F.gm F.kp F.bn .nil (fun _ => .nil) ha hdb he hpl
theorem de_mf {pl : Sem Bool} (he : DE X W o to) (F : MF X.prog X.w X.K X.mg X.base C x k f fd ps d) (hr : Room j X.A) (hgd : X.A.guards = some []) (tk : Takes X W) (ha : DA X W (e :: es) t) (hk : k ≤ j := by decide) (hst : starEach (e :: es) X.env = (false, eval e X.env) :: starEach es X.env := by rfl) (hpl : (backTo pos (starEach es X.env)).any (·.1) = false := by rfl)
    (ht : eval (.Call (.Attribute o x apos) (e :: es) [] pos) X.env = (eval o X.env >>= fun ov => standAt apos.atName >>= fun _ => holding [ov] (getMethod ov x pl) >>= fun z =>
      callWith pos z.1 z.2 (backTo pos (starEach (e :: es) X.env)) (backToKw pos (keywordEach [] X.env))) := by rfl) :
    DE X W (.Call (.Attribute o x apos) (e :: es) [] pos) (xMeth C x d [] to t) := de_meth he F.cl F.mt F.fn (hr.mono hk) hgd tk F.bn .nil (fun _ => .nil) ha hst hpl ht
theorem de_mf0 {pl : Sem Bool} (he : DE X W o to) (F : MF X.prog X.w X.K X.mg X.base C x k f fd ps d) (hr : Room j X.A) (hgd : X.A.guards = some []) (tk : Takes X W) (hk : k ≤ j := by decide)
    (ht : eval (.Call (.Attribute o x apos) [] [] pos) X.env = (eval o X.env >>= fun ov => standAt apos.atName >>= fun _ => holding [ov] (getMethod ov x pl) >>= fun z =>
      callWith pos z.1 z.2 (backTo pos (starEach [] X.env)) (backToKw pos (keywordEach [] X.env))) := by rfl) :
    DE X W (.Call (.Attribute o x apos) [] [] pos) (xMeth C x d [] to xNil) := de_meth0 he F.cl F.mt F.fn (hr.mono hk) hgd tk F.bn .nil (fun _ => .nil) ht
theorem de_pf (he : DE X W o to) (F : PF X.prog X.w X.K X.mg X.base C x k pa f fd ps d) (hr : Room j X.A) (hgd : X.A.guards = some []) (hk : k + 1 ≤ j := by decide) (hab : attributeBase o x X.env (eval o X.env) = eval o X.env := by rfl) : DE X W (.Attribute o x pos) (xProp C d to) :=
  de_prop he F.cl F.pr' F.fn (hr.mono hk) hgd F.bn hab
theorem de_nf (F : NF X.prog X.w X.K X.mg X.base x C k f fd ps d) (hr : Room j X.A) (hgd : X.A.guards = some []) (tk : Takes X W) (hg : Gl X x) (ha : DA X W (e :: es) t) (hk : k + 1 ≤ j := by decide) (hdb : (x == ("__debug__" : Str)) = false := by decide) (he : starEach (e :: es) X.env = (false, eval e X.env) :: starEach es X.env := by rfl)
    (hpl : (backTo pos (starEach es X.env)).any (·.1) = false := by rfl) : DE X W (.Call (.Name x p) (e :: es) [] pos) (xMake C d [] t) :=
  de_make F.mk' F.fn (hr.mono hk) hgd tk hg F.gm F.bn .nil (fun _ => .nil) ha hdb he hpl
theorem Room.u64 {A : Around} (hr : Room k A) : A.units + 64 < cLine := by
  have := hr.un; omega
end
end

/-! ### the store grows -/
def Mle (m M : Mu) : Prop := ∀ a o, m a = some o → M a = some o
section
variable {m M N : Mu} {a p : Addr} {o u : MO}
theorem Mle.refl : Mle m m := fun _ _ h => h
theorem Mle.trans (h : Mle m M) (h' : Mle M N) : Mle m N := fun a o e => h' a o (h a o e)
theorem Mle.new (h : m p = none) : Mle m (mu m p o) := fun a u e => by
  rw [mu_ne]; exact e
  intro q; subst q; rw [h] at e; cases e
theorem Mle.mu (h : Mle m M) : Mle (mu m p o) (mu M p o) := fun a u e => by
  by_cases q : a = p
  · subst q; rw [mu_same] at e ⊢; exact e
  · rw [mu_ne q] at e ⊢; exact h a u e
theorem Mle.drop (h : Mle m M) (hp : m p = none) : Mle m (fun b => if b = p then none else M b) := fun a u e => by
  show (if a = p then none else M a) = some u
  rw [if_neg]; exact h a u e
  intro q; subst q; rw [hp] at e; cases e
theorem Mle.none (h : Mle m M) (hp : M p = none) : m p = none := by
  cases e : m p with
  | none => rfl
  | some o => rw [h p o e] at hp; cases hp
theorem mu_lt (h : m p = none) (h2 : m a = some o) : a ≠ p := fun q => by subst q; rw [h] at h2; cases h2
end
/-! ### a comprehension, by what a turn collects -/
section
variable {r : Ro} {m : Mu} {F : Y → Mu → Prop} {g : XG} {tt : XT} {te : XE} {vs : List Nat}
theorem fm_len {α : Type} (f : Nat → Option α) (n : Nat) : ((List.range n).filterMap f).length ≤ n := by
  have := List.length_filterMap_le f (List.range n)
  rwa [List.length_range] at this
theorem fm_succ {α : Type} (f : Nat → Option α) (n : Nat) : (List.range (n + 1)).filterMap f = (List.range n).filterMap f ++ (f n).toList := by
  rw [List.range_succ, List.filterMap_append]
  congr 1
/-- what is asked of a walk, from the store m -/
abbrev LcZ (fin : Addr → List Y → Mu → (Y → Mu → Prop) → Prop) (k : Wk) (g : XG) (tt : XT) (te : XE) (vs : List Nat) (r : Ro) (m : Mu) (F : Y → Mu → Prop) : Prop :=
  ∀ D, m D = none → ∃ Z : Nat → List Y → Mu → Prop, Z 0 [] (mu m D (.lst [])) ∧
    ∀ i acc M, i ≤ k.n → Z i acc M → M D = some (.lst acc) ∧ k.src M ∧ (i < k.n → k.itm i M (fun y M1 => g y (wipeR r vs) M1 (fun r2 M2 => tt r2 M2 (fun b M3 =>
      if b = true then te r2 M3 (fun z M4 => M4 D = some (.lst acc) ∧ acc.length < 10000 ∧ Z (i + 1) (acc ++ [z]) (mu M4 D (.lst (acc ++ [z])))) P0 else Z (i + 1) acc M3) P0))) ∧ (i = k.n → fin D acc M F)
theorem lc_go {fin : Addr → List Y → Mu → (Y → Mu → Prop) → Prop} {k : Wk} (f : Nat → Option Y) (hn : k.n ≤ 10000) (hs : ∀ M, Mle m M → k.src M)
    (ht : ∀ i M, i < k.n → Mle m M → ∀ (C : Y → Mu → Prop) (N : Mu → Prop), (∀ z M', f i = some z → Mle M M' → C z M') → (∀ M', f i = none → Mle M M' → N M') →
      k.itm i M (fun y M1 => g y (wipeR r vs) M1 (fun r2 M2 => tt r2 M2 (fun b M3 => if b = true then te r2 M3 C P0 else N M3) P0)))
    (hf : ∀ D M, m D = none → Mle (mu m D (.lst ((List.range k.n).filterMap f))) M → fin D ((List.range k.n).filterMap f) M F) : LcZ fin k g tt te vs r m F := by
  intro D hD
  refine ⟨fun i acc M => acc = (List.range i).filterMap f ∧ Mle (mu m D (.lst acc)) M, ⟨rfl, Mle.refl⟩, ?_⟩
  rintro i acc M hi ⟨rfl, hM⟩
  have hmD := hM D _ mu_same
  have hmM : Mle m M := (Mle.new hD).trans hM
  refine ⟨hmD, hs M hmM, fun hlt => ?_, fun he => ?_⟩
  · refine ht i M hlt hmM _ _ (fun z M' hz hM' => ⟨hM' _ _ hmD, Nat.lt_of_le_of_lt (fm_len f i) (by omega), ?_, ?_⟩) (fun M' hz hM' => ⟨?_, ?_⟩)
    · rw [fm_succ, hz]; rfl
    · have z1 : Mle (mu m D (.lst ((List.range i).filterMap f))) M' := hM.trans hM'
      have z2 := z1.mu (p := D) (o := .lst ((List.range i).filterMap f ++ [z]))
      rw [mu_mu] at z2
      exact z2
    · rw [fm_succ, hz]; simp
    · exact hM.trans hM'
  · subst he
    exact hf D M hD hM
theorem fm_get {α β : Type} (h : Nat → α → Option β) : ∀ (ys : List α) (n : Nat), n ≤ ys.length → (List.range n).filterMap (fun i => ys[i]?.bind (h i)) = (ys.take n).zipIdx.filterMap (fun p => h p.2 p.1) := by
  intro ys n
  induction n with
  | zero => intro _; rfl
  | succ n ih =>
    intro hn
    rw [fm_succ, ih (by omega)]
    have e : ys[n]? = some ys[n] := List.getElem?_eq_getElem (by omega)
    rw [List.take_add_one, e, List.zipIdx_append, List.filterMap_append]
    congr 1
    simp
    rw [Nat.min_eq_left (by omega)]
    cases q : h n ys[n] <;> simp [q]
theorem fm_all {α β : Type} (h : α → Option β) (ys : List α) : (List.range ys.length).filterMap (fun i => ys[i]?.bind h) = ys.filterMap h := by
  rw [fm_get (fun _ => h) ys ys.length (Nat.le_refl _), List.take_length]
  rw [show ys.filterMap h = (ys.zipIdx.map Prod.fst).filterMap h by rw [List.zipIdx_map_fst]]
  rw [List.filterMap_map]
  rfl
/-- over the items of a sequence -/
theorem lc_seq {fin : Addr → List Y → Mu → (Y → Mu → Prop) → Prop} {y : Y} {ys : List Y} (h : Y → Option Y) (hn : ys.length ≤ 10000) (hy : ∀ p, y = .l p → m p ≠ none)
    (ht : ∀ z M, z ∈ ys → Mle m M → ∀ (C : Y → Mu → Prop) (N : Mu → Prop), (∀ x M', h z = some x → Mle M M' → C x M') → (∀ M', h z = none → Mle M M' → N M') → g z (wipeR r vs) M (fun r2 M2 => tt r2 M2 (fun b M3 => if b = true then te r2 M3 C P0 else N M3) P0))
    (hf : ∀ D M, m D = none → Mle (mu m D (.lst (ys.filterMap h))) M → fin D (ys.filterMap h) M F) : LcZ fin (wkSeq m y ys) g tt te vs r m F := by
  refine lc_go (k := wkSeq m y ys) (fun i => ys[i]?.bind h) hn (fun M hM p e => ?_) (fun i M hi hM C N hC hN => ?_) (fun D M hD hM => ?_)
  · cases q : m p with
    | none => exact absurd q (hy p e)
    | some o => exact hM p o q
  · have e : ys[i]? = some ys[i] := List.getElem?_eq_getElem hi
    refine ⟨ys[i], e, ?_⟩
    rw [e] at hC hN
    exact ht ys[i] M (List.getElem_mem _) hM C N hC hN
  · have ef := fm_all h ys
    show fin D ((List.range ys.length).filterMap _) M F
    have hM' : Mle (mu m D (.lst ((List.range ys.length).filterMap fun i => ys[i]?.bind h))) M := hM
    rw [ef] at hM' ⊢
    exact hf D M hD hM'
/-- over enumerate(a list): the places and items -/
theorem lc_enum {fin : Addr → List Y → Mu → (Y → Mu → Prop) → Prop} {y : Y} {ys : List Y} (h : Nat → Y → Option Y) (hn : ys.length ≤ 10000) (hy : ∀ p, y = .l p → m p ≠ none)
    (ht : ∀ i z M, ys[i]? = some z → Mle m M → ∀ (C : Y → Mu → Prop) (N : Mu → Prop), (∀ x M', h i z = some x → Mle M M' → C x M') → (∀ M', h i z = none → Mle M M' → N M') →
      mkT [.d (.int (i : Nat)), z] M (fun y M1 => g y (wipeR r vs) M1 (fun r2 M2 => tt r2 M2 (fun b M3 => if b = true then te r2 M3 C P0 else N M3) P0)))
    (hf : ∀ D M, m D = none → Mle (mu m D (.lst (ys.zipIdx.filterMap fun p => h p.2 p.1))) M → fin D (ys.zipIdx.filterMap fun p => h p.2 p.1) M F) : LcZ fin (wkEnum m y ys) g tt te vs r m F := by
  refine lc_go (k := wkEnum m y ys) (fun i => ys[i]?.bind (h i)) hn (fun M hM p e => ?_) (fun i M hi hM C N hC hN => ?_) (fun D M hD hM => ?_)
  · cases q : m p with
    | none => exact absurd q (hy p e)
    | some o => exact hM p o q
  · have e : ys[i]? = some ys[i] := List.getElem?_eq_getElem hi
    refine ⟨ys[i], e, ?_⟩
    rw [e] at hC hN
    exact ht i ys[i] M e hM C N hC hN
  · have ef := fm_get h ys ys.length (Nat.le_refl _)
    rw [List.take_length] at ef
    show fin D ((List.range ys.length).filterMap _) M F
    have hM' : Mle (mu m D (.lst ((List.range ys.length).filterMap fun i => ys[i]?.bind (h i)))) M := hM
    rw [ef] at hM' ⊢
    exact hf D M hD hM'
/-- the two ways in which a comprehension ends -/
theorem fin_d {D : Addr} {M : Mu} {acc : List Y} (ds : List PyData) (e : acc = ds.map Y.d) (hD : m D = none) (hM : Mle (mu m D (.lst acc)) M) (h : ∀ m', Mle m m' → F (.d (.list ds)) m') : finD D acc M F :=
  ⟨ds, e, h _ (((Mle.new hD).trans hM).drop hD)⟩
end
end Dl
namespace Dl
open PySem PySem.Spec PyProof.Rows L2 Evl
section
variable {X : Cx} {W : WX} {x : Str} {pos : Pos}
/-- a constant of the module, a built-in class -/
theorem de_gi {i : Int} (hg : Gl X x) (hm : ∃ t, X.mg x = some (.int i t)) (hd : (x == ("__debug__" : Str)) = false := by decide) : DE X W (.Name x pos) (xC (.d (.int i))) := by
  obtain ⟨t, hm⟩ := hm
  exact de_glob (v := V.int i) (u := Value.int i t) hg hm ⟨t, rfl⟩ (fun G => .d (Da.int i)) hd
theorem de_ty {T : String} (hg : Gl X x) (hm : X.mg x = none) (hb : bootBuiltins x = some (.type T)) (hn : x ≠ "__name__" := by decide) (hd : (x == ("__debug__" : Str)) = false := by decide) : DE X W (.Name x pos) (xC (.v (.ty T))) :=
  de_c (pe_bltn hg hm hb (v := V.ty T) rfl hn hd) fun G => .v (.ty T)
end
end Dl
/-! D12: objects that may change, read as deep data at one moment: ==. -/
namespace Dl
open PySem PySem.Spec PyProof.Rows L2 Evl
mutual
inductive DeepY (m : Mu) : Y → PyData → Prop
  | d (x : PyData) : DeepY m (.d x) x
  | l {p : Addr} {ys : List Y} {ds : List PyData} : m p = some (.lst ys) → DeepYs m ys ds → DeepY m (.l p) (.list ds)
  | t {p : Addr} {ys : List Y} {ds : List PyData} : m p = some (.tup ys) → DeepYs m ys ds → DeepY m (.l p) (.tuple ds)
inductive DeepYs (m : Mu) : List Y → List PyData → Prop
  | nil : DeepYs m [] []
  | cons {y : Y} {ys : List Y} {d : PyData} {ds : List PyData} : DeepY m y d → DeepYs m ys ds → DeepYs m (y :: ys) (d :: ds)
end
section
variable {X : Cx} {K : PySem.W.Frag} {G H : Hp} {m : Mu}
theorem rvs_nil {ws : List V} (h : RVs K G ws []) : ws = [] := by cases h; rfl
theorem rvs_uncons {ws : List V} {y : Y} {ys : List Y} (h : RVs K G ws (y :: ys)) : ∃ w ws', ws = w :: ws' ∧ RV K G w y ∧ RVs K G ws' ys := by
  cases h with
  | cons h t => exact ⟨_, _, rfl, h, t⟩
mutual
theorem DeepY.da (rh : Rh K G m H) : ∀ {y : Y} {d : PyData} {v : V}, DeepY m y d → RV K G v y → Da K H v d
  | _, _, _, .d x, rv => rv.da.mono rh.sub
  | _, _, _, .l h hs, rv => by
    obtain ⟨ws, e, q⟩ := rh.lst h
    cases rv.loc
    exact .lst (.inl e) (DeepYs.da rh hs q)
  | _, _, _, .t h hs, rv => by
    obtain ⟨ws, e, q⟩ := rh.tup h
    cases rv.loc
    exact .tup (SqT.of e) (DeepYs.da rh hs q)
theorem DeepYs.da (rh : Rh K G m H) : ∀ {ys : List Y} {ds : List PyData} {ws : List V}, DeepYs m ys ds → RVs K G ws ys → DaAll K H ws ds
  | _, _, _, .nil, r => by rw [rvs_nil r]; exact .nil
  | _, _, _, .cons h t, r => by
    obtain ⟨w, ws', rfl, r1, r2⟩ := rvs_uncons r
    exact .cons (DeepY.da rh h r1) (DeepYs.da rh t r2)
end
theorem DeepYs.len {ys : List Y} {ds : List PyData} (h : DeepYs m ys ds) : ys.length = ds.length := by
  induction ys generalizing ds with
  | nil => cases h; rfl
  | cons y ys ih =>
    cases h with
    | cons h t => exact congrArg Nat.succ (ih t)
/-- == of what may change, by the data that it is now -/
abbrev xEqL : XR := fun y z m F => ∃ a b, DeepY m y a ∧ DeepY m z b ∧ SeqAt.shaped a = true ∧ SeqAt.shaped b = true ∧ F (.d (.bool (PyData.eqv a b))) m
theorem opd_eqL (hu : X.A.units + 64 < cLine) : OpD X (compareOp .Eq) xEqL := by
  refine ⟨_, op_eqD hu, fun {G m H v w y z F Q} rh rv rw hx cv => ?_⟩
  obtain ⟨a, b, h1, h2, h3, h4, f⟩ := hx
  exact ⟨a, b, (h1.da rh rv).dp (shaped_lay h3), (h2.da rh rw).dp (shaped_lay h4), h3, h4, cv.at rh (.d (.bl _)) f⟩
abbrev xNeL : XR := fun y z m F => ∃ a b, DeepY m y a ∧ DeepY m z b ∧ SeqAt.shaped a = true ∧ SeqAt.shaped b = true ∧ F (.d (.bool !(PyData.eqv a b))) m
theorem opd_neL (hu : X.A.units + 64 < cLine) : OpD X (compareOp .NotEq) xNeL := by
  refine ⟨_, op_neD hu, fun {G m H v w y z F Q} rh rv rw hx cv => ?_⟩
  obtain ⟨a, b, h1, h2, h3, h4, f⟩ := hx
  exact ⟨a, b, (h1.da rh rv).dp (shaped_lay h3), (h2.da rh rw).dp (shaped_lay h4), h3, h4, cv.at rh (.d (.bl _)) f⟩
theorem eqv_nil : PyData.eqv (.list []) (.list []) = true := by simp [PyData.eqv, PyData.eqvAll]
theorem eqv_cons {d : PyData} {ds : List PyData} : PyData.eqv (.list (d :: ds)) (.list []) = false := by simp [PyData.eqv, PyData.eqvAll]
end
end Dl
/-! D13: rules that name the fragment K beside the context. -/
namespace Dl
open PySem PySem.Spec PyProof.Rows L2 Evl
section
variable {X : Cx} {W : WX} {e o : Expr} {es : List Expr} {pos : Pos} {t ta to : XE}
theorem kfld (K : PySem.W.Frag) {fn : Str} (he : DE X W e ta) (hb : attributeBase e fn X.env (eval e X.env) = eval e X.env := by rfl) (hK : X.K = K := by rfl) : DE X W (.Attribute e fn pos) (xFld K ta fn) := by
  subst hK; exact de_fld he hb
theorem kcon (K : PySem.W.Frag) {fn : Str} (he : DE X W e ta) (hb : attributeBase e fn X.env (eval e X.env) = eval e X.env := by rfl) (hK : X.K = K := by rfl) : DE X W (.Attribute e fn pos) (xCon K ta fn) := by
  subst hK; exact de_con he hb
theorem ksetF (K : PySem.W.Frag) {fn : Str} {pos' : Pos} (ho : DE X W o to) (hv : DE X W e t) (hs : swapsWith e (some (.Attribute o fn pos')) pos.line X.env = pure false := by rfl) (hK : X.K = K := by rfl) : DS X W (.Assign [.Attribute o fn pos'] e pos) (xSetF K to t fn) := by
  subst hK; exact ds_setF ho hv hs
theorem kisi (K : PySem.W.Frag) (hK : X.K = K := by rfl) : CallD X (.builtin "isinstance") (xIsi K) := by
  subst hK; exact cd_isi
theorem ktry (K : PySem.W.Frag) {x : Str} {c : Value} {body suite : List Stmt} {b0 : Stmt} {np pos' : Pos} {tb ts : XS} (hs : X.stack = X.env :: X.outer) (hf : X.env.frame = some X.env.locals) (hc : Names X x c) (tk : Takes X W)
    (hb : ∀ (W' : WX) (pn : List (Addr × Obj)) (xe : Value → Shared → Prop), Takes (X.tr pn xe) W' → PassesOwn (model X.prog X.w) X.A X.env xe → DSs (X.tr pn xe) W' body tb)
    (hsu : ∀ (a : Addr) (oe : Obj) (cls : Value) (d : Option Addr) (pn : List (Addr × Obj)), Zc cls d oe → (∃ vs, oe.data = .fields vs) → DSs (X.suite a ((a, oe) :: pn)) W0 (b0 :: suite) ts) (hK : X.K = K := by rfl) :
    DS X W (.Try body [.ExceptHandler (some (.Name x np)) none (b0 :: suite) pos'] [] [] pos) (xTry K c tb ts) := by
  subst hK; exact ds_try hs hf hc tk hb hsu
end
/-- an exception class of the program's own over ValueError, known by its name -/
structure XcF (K : PySem.W.Frag) (mg : Str → Option Value) (x : Str) (C : Addr) : Prop where
  q : PySem.W.excIn K C [.type "ValueError", .type "Exception", .type "BaseException", .type "object"] "ValueError.__new__" = true
  gC : mg x = some (.ref C)
  kC : PySem.W.keepIn K (.ref C) = true
  s1 : PySem.W.subIn K (.ref C) (.type "BaseException") = some true
  s2 : PySem.W.typeIn K (.ref C) = some (.type "type")
  em : PySem.W.exmOne K (.ref C) (.ref C) = some true
theorem exm_own {K : PySem.W.Frag} {S : Addr} (h1 : PySem.W.subIn K (.ref S) (.type "BaseException") = some true) (h2 : PySem.W.isClsIn K S = true) (h3 : PySem.W.typeIn K (.ref S) = some (.type "type")) (h4 : PySem.W.subIn K (.ref S) (.ref S) = some true) : PySem.W.exmOne K (.ref S) (.ref S) = some true := by
  unfold PySem.W.isClsIn at h2
  unfold PySem.W.exmOne
  rw [h1]
  show PySem.W.kitCls K (.ref S) (.ref S) = some true
  unfold PySem.W.kitCls
  simp [h2, h3, h4]
section
variable {X : Cx} {W : WX} {e : Expr} {te : XE} {C : Addr} {x : Str}
theorem kraise {p pos pos' : Pos} (hc : X.calm = true) (tk : Takes X W) (F : XcF X.K X.mg x C) (hg : Gl X x) (he : DE X W e te) (hs : starEach [e] X.env = (false, eval e X.env) :: starEach [] X.env := by rfl) (hdb : (x == ("__debug__" : Str)) = false := by decide) : DS X W (.Raise (some (.Call (.Name x p) [e] [] pos)) none pos') (xRaise C te) :=
  ds_raise hc tk PySem.F.excBase_ValueError F.q F.gC F.kC (raises_own F.s1 F.s2) hg he hs hdb
theorem XcF.nm (F : XcF X.K X.mg x C) (hg : Gl X x) (hdb : (x == ("__debug__" : Str)) = false := by decide) : Names X x (.ref C) := ⟨hg, hdb, .inl F.gC⟩
end
end Dl
/-! D14: a method's body that says super(): a frame with the cell of its class. -/
namespace Dl
open PySem PySem.Spec PyProof.Rows L2 Evl
abbrev clsN : Str := "__class__"
theorem cells_acc : ∀ (ns : List (Str × NameKind)) (n : Nat) (acc : List (Str × Addr)), cellsFrom n ns acc = cellsFrom n ns [] ++ acc
  | [], _, _ => rfl
  | (x, k) :: r, n, acc => by
    rw [cellsFrom, cellsFrom]
    split
    · rw [cells_acc r (n + 1) ((x, n) :: acc), cells_acc r (n + 1) [(x, n)], List.append_assoc]
      rfl
    · exact cells_acc r n acc
theorem look_app {α : Type} {x : Str} {v : α} : ∀ {l r : List (Str × α)}, l.lookup x = some v → (l ++ r).lookup x = some v
  | [], _, h => by simp at h
  | (y, w) :: l, r, h => by
    rw [List.cons_append, List.lookup_cons]
    rw [List.lookup_cons] at h
    split at h
    · exact h
    · exact look_app h
/-- what a name is stored in does not depend on more cells behind -/
theorem store_more {env env' : Env} {x : Str} (v : Value) (hs : env.scope = env'.scope) (hl : env.locals = env'.locals) (hk : env'.kindOf x = some .local ∨ env'.kindOf x = some .cell ∧ ∃ c, env'.cells.lookup x = some c ∧ env.cells.lookup x = some c) (hf : env'.scope.kind = .function) : storeName env x v = storeName env' x v := by
  have hk2 : env.kindOf x = env'.kindOf x := by unfold Env.kindOf; rw [hs]
  unfold storeName
  rw [hk2, hs, hl]
  rcases hk with hk | ⟨hk, c, h1, h2⟩
  · rw [hk]
    simp [hf]
  · rw [hk]
    simp [hf, PySem.cellOf, h1, h2]
section
variable {M : Model} {A : Around} {E : Value → Shared → Prop} {s : Shared} {scope : Scope} {globals : Addr} {binds : List (Str × Value)} {qual : Str} {func : Option Addr} {code : Value} {builtins : Addr} {cl : List (Str × Addr)} {Q : Env → Shared → Prop}
theorem newFn_cl (hk : scope.kind = .function) (hb : ∀ y ∈ binds, scope.names.lookup y.1 = some .local ∨ scope.names.lookup y.1 = some .cell ∧ ((cellsFrom (s.heap.objs.size + 1) scope.names []).lookup y.1).isSome = true)
    (h : ∀ s', InCallC s s.heap.objs.size (bindL (fun x => scope.names.lookup x) binds fun _ => none) (cellsFrom (s.heap.objs.size + 1) scope.names []) (bindC (fun x => scope.names.lookup x) binds fun _ => none) s' →
      Q (newEnv scope s.heap.objs.size globals (cellsFrom (s.heap.objs.size + 1) scope.names [] ++ cl) qual func code none builtins) s') : wpAny M A (newFunctionEnv scope globals cl binds qual func code none builtins) Q E s := by
  have hz : (s.heap.push { cls := Value.type "frame", data := Data.dict #[] }).objs.size = s.heap.objs.size + 1 := Heap.size_push _ _
  have I0 : InCallC s s.heap.objs.size (fun _ => none) (cellsFrom (s.heap.objs.size + 1) scope.names []) (fun _ => none) { heap := pushCells (s.heap.push { cls := Value.type "frame", data := Data.dict #[] }) scope.names, gens := s.gens, drawn := s.drawn, toks := s.toks, os := s.os } := by
    have ck := cellsFrom_ok scope.names (s.heap.push { cls := Value.type "frame", data := Data.dict #[] }) (s.heap.objs.size + 1) [] ⟨(fun _ _ h => by simp at h), .nil⟩ (by rw [hz]; exact Nat.le_refl _)
    rw [hz] at ck
    refine ⟨⟨⟨_, _, rfl⟩, (Heap.Ns.new s.heap _).keeps fun b o e => pushCells_keeps _ _ b o e, fun b o e => pushCells_keeps _ _ b o (Heap.get?_push_of_some _ e), Nat.le_refl _⟩, fun n c e => (ck.empty n c (mem_of_lookup e)).1, ck.apart, fun n c e => (ck.empty n c e).2⟩
  have hsome : ∀ {x : Str}, ((cellsFrom (s.heap.objs.size + 1) scope.names []).lookup x).isSome = true → ∃ c, (cellsFrom (s.heap.objs.size + 1) scope.names []).lookup x = some c ∧ (cellsFrom (s.heap.objs.size + 1) scope.names [] ++ cl).lookup x = some c := fun {x} hh => by
    obtain ⟨c, hc⟩ := Option.isSome_iff_exists.mp hh
    exact ⟨c, hc, look_app hc⟩
  have loop : ∀ (env env' : Env), env.scope = env'.scope → env.locals = env'.locals → env'.scope.kind = .function → ∀ (bs : List (Str × Value)), (∀ y ∈ bs, env'.kindOf y.1 = some .local ∨ env'.kindOf y.1 = some .cell ∧ ∃ c, env'.cells.lookup y.1 = some c ∧ env.cells.lookup y.1 = some c) →
      (forIn bs PUnit.unit fun (x : Str × Value) (_ : PUnit) => (do storeName env x.1 x.2; pure (ForInStep.yield PUnit.unit) : Sem (ForInStep PUnit))) = forIn bs PUnit.unit fun (x : Str × Value) (_ : PUnit) => (do storeName env' x.1 x.2; pure (ForInStep.yield PUnit.unit)) := by
    intro env env' e1 e2 e3 bs
    induction bs with
    | nil => intro _; rfl
    | cons y bs ih =>
      intro hbs
      rw [List.forIn_cons, List.forIn_cons, store_more y.2 e1 e2 (hbs y (by simp)) e3]
      congr 1
      funext r
      cases r with
      | done b => rfl
      | yield b => exact ih fun z hz => hbs z (by simp [hz])
  unfold newFunctionEnv
  refine wpAny_bind (wpAny_alloc ?_)
  refine wpAny_bind (wpAny_layCells _ (fun _ _ _ => rfl) scope.names cl _ _ ?_)
  generalize hc : cellsFrom _ scope.names cl = cells
  have hc2 : cells = cellsFrom (s.heap.objs.size + 1) scope.names [] ++ cl := by
    rw [← hc]
    exact (congrArg (fun n => cellsFrom n scope.names cl) hz).trans (cells_acc _ _ _)
  subst hc2
  clear hc
  refine wpAny_bind ?_
  have e := loop { scope := scope, locals := s.heap.objs.size, globals := globals, cells := cellsFrom (s.heap.objs.size + 1) scope.names [] ++ cl, qual := qual, func := func, code := code, frame := some s.heap.objs.size, builtins := builtins }
    { scope := scope, locals := s.heap.objs.size, globals := globals, cells := cellsFrom (s.heap.objs.size + 1) scope.names [], qual := qual, func := func, code := code, frame := some s.heap.objs.size, builtins := builtins } rfl rfl hk binds (fun y hy => (hb y hy).imp id fun q => ⟨q.1, hsome q.2⟩)
  have go := wpAny_bindParams (M := M) (A := A) (E := E) (s₀ := s) (env := { scope := scope, locals := s.heap.objs.size, globals := globals, cells := cellsFrom (s.heap.objs.size + 1) scope.names [], qual := qual, func := func, code := code, frame := some s.heap.objs.size, builtins := builtins }) (fun (x : Str × Value) (_ : PUnit) => (do storeName { scope := scope, locals := s.heap.objs.size, globals := globals, cells := cellsFrom (s.heap.objs.size + 1) scope.names [], qual := qual, func := func, code := code, frame := some s.heap.objs.size, builtins := builtins } x.1 x.2; pure (ForInStep.yield PUnit.unit) : Sem (ForInStep PUnit))) (fun _ _ _ => rfl) hk binds (fun _ => none) (fun _ => none) _
    (fun _ s' => wpAny M A (pure (newEnv scope s.heap.objs.size globals (cellsFrom (s.heap.objs.size + 1) scope.names [] ++ cl) qual func code none builtins)) Q E s') I0 hb (fun s' x => wpAny_pure (h s' x))
  rw [← e] at go
  exact go
end
/-! ### the frame of such a method -/
def envS (qual : Str) (scope : Scope) (L f : Addr) (cd : Value) (cc : Addr) : Env :=
  { scope := scope, locals := L, globals := mainGlobals, cells := cellsFrom (L + 1) scope.names [] ++ [(clsN, cc)], qual := qual ++ Str.ofString ".<locals>.", func := some f, code := cd, frame := some L, builtins := builtinsNs }
abbrev cxS (P : Program) (w : World) (K : PySem.W.Frag) (mg : Str → Option Value) (base : Heap) (N : List Str) (qual : Str) (scope : Scope) (f : Addr) (cd : Value) (cc : Addr) (A : Around) (outer : List Env) (s : Shared) (H : Hp) (E : XK) : Cx :=
  { prog := P, w := w, K := K, mg := mg, base := base, A := A.deeper (envS qual scope s.heap.objs.size f cd cc), N := N, s_0 := s, H_0 := H, env := envS qual scope s.heap.objs.size f cd cc, outer := outer, stack := envS qual scope s.heap.objs.size f cd cc :: outer, ex := [],
    fn := fun x => !(x == clsN), calm := true, pn := [],
    xe := fun e s' => wpAny (model P w) (A.deeper (envS qual scope s.heap.objs.size f cd cc)) (leaving (envS qual scope s.heap.objs.size f cd cc) e) (fun _ s'' => L2.CX P w outer H s E e s'') (fun e' s'' => L2.CX P w outer H s E e' s'') s' }
/-- the scope without the class's cell -/
def less (sc : Scope) : Scope := { sc with names := sc.names.filter fun y => !(y.1 == clsN) }
theorem less_look (sc : Scope) {x : Str} (h : x ≠ clsN) : (less sc).names.lookup x = sc.names.lookup x := by
  unfold less
  show (sc.names.filter _).lookup x = _
  induction sc.names with
  | nil => rfl
  | cons y r ih =>
    obtain ⟨a, k⟩ := y
    by_cases e : a = clsN
    · subst e
      rw [List.filter_cons_of_neg (by simp), ih, List.lookup_cons]
      rw [show (x == clsN) = false by simpa using h]
    · rw [List.filter_cons_of_pos (by simpa using e), List.lookup_cons, List.lookup_cons, ih]
theorem less_cells : ∀ (ns : List (Str × NameKind)) (n : Nat) (acc : List (Str × Addr)), (∀ y ∈ ns, y.1 = clsN → y.2 ≠ .cell) → cellsFrom n (ns.filter fun y => !(y.1 == clsN)) acc = cellsFrom n ns acc
  | [], _, _, _ => rfl
  | (x, k) :: r, n, acc, h => by
    have hr := fun n acc => less_cells r n acc fun y hy => h y (by simp [hy])
    by_cases e : x = clsN
    · have hk := h (x, k) (by simp) e
      rw [List.filter_cons_of_neg (by simp [e]), hr, cellsFrom, if_neg (by simpa using hk)]
    · rw [List.filter_cons_of_pos (by simpa using e), cellsFrom, cellsFrom]
      split
      · exact hr _ _
      · exact hr _ _
theorem bindL_eq {k k' : Str → Option NameKind} : ∀ {bs : List (Str × Value)} {m : Str → Option Value}, (∀ y ∈ bs, k y.1 = k' y.1) → bindL k bs m = bindL k' bs m
  | [], _, _ => rfl
  | (x, v) :: r, m, h => by
    rw [bindL, bindL, h (x, v) (by simp)]
    exact bindL_eq fun y hy => h y (by simp [hy])
theorem bindC_eq {k k' : Str → Option NameKind} : ∀ {bs : List (Str × Value)} {m : Str → Option Value}, (∀ y ∈ bs, k y.1 = k' y.1) → bindC k bs m = bindC k' bs m
  | [], _, _ => rfl
  | (x, v) :: r, m, h => by
    rw [bindC, bindC, h (x, v) (by simp)]
    exact bindC_eq fun y hy => h y (by simp [hy])
structure SupScope (N ps : List Str) (sc : Scope) : Prop where
  fs : FnScope N ps (less sc)
  cls : sc.names.lookup clsN = some .free
  only : ∀ y ∈ sc.names, y.1 = clsN → y.2 ≠ .cell
  nin : clsN ∉ N
  pin : ∀ x ∈ ps, x ≠ clsN
section
variable {P : Program} {w : World} {K : PySem.W.Frag} {mg : Str → Option Value} {base : Heap} {N ps : List Str} {qual : Str} {scope : Scope} {f cc : Addr} {cd : Value} {A : Around} {outer : List Env} {s s1 : Shared} {H : Hp} {E : XK} {us : List Value} {vs : List V}
theorem inv_sup (S : SupScope N ps scope) (hA : A.handled = none) (e0 : Env0 P w K mg base A outer s H) (hl : vs.length = ps.length) (r : Vals vs us) {oc : Obj} {D : Value} (hcc : K.lookup cc = some oc) (hoc : oc.data = .cell (some D))
    (x : InCallC s s.heap.objs.size (bindL (fun x => scope.names.lookup x) (ps.zip us) fun _ => none) (cellsFrom (s.heap.objs.size + 1) scope.names []) (bindC (fun x => scope.names.lookup x) (ps.zip us) fun _ => none) s1) :
    L2.Inv (cxS P w K mg base N qual scope f cd cc A outer s H E) [] (L2.start N vs) H s1 := by
  have hps : ∀ y ∈ ps.zip us, scope.names.lookup y.1 = (less scope).names.lookup y.1 := fun y hy => (less_look scope (S.pin _ (List.of_mem_zip hy).1)).symm
  have hcs : ∀ n, cellsFrom n (less scope).names [] = cellsFrom n scope.names [] := fun n => less_cells _ _ _ S.only
  have x' : InCallC s s.heap.objs.size (bindL (envOfC qual (less scope) s.heap.objs.size f cd).kindOf (ps.zip us) fun _ => none) (cellsFrom (s.heap.objs.size + 1) (less scope).names []) (bindC (envOfC qual (less scope) s.heap.objs.size f cd).kindOf (ps.zip us) fun _ => none) s1 := by
    rw [hcs]
    have e1 := bindL_eq (k := fun x => scope.names.lookup x) (k' := fun x => (less scope).names.lookup x) (m := fun _ => none) hps
    have e2 := bindC_eq (k := fun x => scope.names.lookup x) (k' := fun x => (less scope).names.lookup x) (m := fun _ => none) hps
    rw [e1, e2] at x
    exact x
  have I := inv_start (CX := L2.CX P w) (P := P) (w := w) (K := K) (mg := mg) (base := base) (qual := qual) (f := f) (cd := cd) (E := E) S.fs hA e0 hl r x'
  have KX : K.In base := e0.mod.kin
  obtain ⟨hcs0, hH⟩ := e0.bs cc oc (KX _ _ hcc)
  have hlt : cc < s.heap.objs.size := by
    exact Heap.IsCell.lt (h := s.heap) (v := some D) ⟨oc, hcs0, hoc⟩
  have cellcc : s1.heap.IsCell cc (some D) := ⟨oc, x.toInCall.keep cc oc hcs0, hoc⟩
  have split : ∀ {y : Str} {c : Addr}, (cellsFrom (s.heap.objs.size + 1) scope.names [] ++ [(clsN, cc)]).lookup y = some c → (cellsFrom (s.heap.objs.size + 1) scope.names []).lookup y = some c ∨ y = clsN ∧ c = cc := by
    intro y c h
    cases q : (cellsFrom (s.heap.objs.size + 1) scope.names []).lookup y with
    | some c' =>
      rw [look_app q] at h
      exact .inl h
    | none =>
      have go : ∀ (l : List (Str × Addr)), l.lookup y = none → (l ++ [(clsN, cc)]).lookup y = [(clsN, cc)].lookup y := by
        intro l
        induction l with
        | nil => intro _; rfl
        | cons z l ih =>
          intro hn
          rw [List.lookup_cons] at hn
          rw [List.cons_append, List.lookup_cons]
          split at hn
          · cases hn
          · rw [ih hn]
      rw [go _ q, List.lookup_cons] at h
      split at h
      · rename_i e
        cases h
        exact .inr ⟨by simpa using e, rfl⟩
      · cases h
  have old : ∀ {y : Str} {c : Addr}, (cellsFrom (s.heap.objs.size + 1) scope.names []).lookup y = some c → s.heap.objs.size < c := fun h => x.above _ _ (mem_of_lookup h)
  have hc' : ∀ {y : Str} {c : Addr}, (cellsFrom (s.heap.objs.size + 1) scope.names []).lookup y = some c → (envOfC qual (less scope) s.heap.objs.size f cd).cells.lookup y = some c := fun {y c} h => by
    show (cellsFrom _ (less scope).names []).lookup y = some c
    rw [hcs]; exact h
  have hc2 : ∀ {y : Str} {c : Addr}, (envOfC qual (less scope) s.heap.objs.size f cd).cells.lookup y = some c → (cellsFrom (s.heap.objs.size + 1) scope.names []).lookup y = some c := fun {y c} h => by
    have h' : (cellsFrom (s.heap.objs.size + 1) (less scope).names []).lookup y = some c := h
    rw [hcs] at h'; exact h'
  have kd : ∀ {y : Str}, y ≠ clsN → (envOfC qual (less scope) s.heap.objs.size f cd).kindOf y = (envS qual scope s.heap.objs.size f cd cc).kindOf y := fun h => less_look scope h
  refine ⟨⟨I.ok.mod, I.ok.kind, rfl, rfl, Nat.le_refl _, ?_, ?_, ?_, fun _ => hA, ?_, .inr ⟨rfl, rfl⟩, (fun _ h => nomatch h), e0.bs, e0.bsz, (fun _ _ _ h => nomatch h), (fun _ h => nomatch h), e0.funs, e0.frf⟩, I.os, I.bare, I.base, ?_, ?_, I.free, ?_, I.pin, I.hok, I.len⟩
  · intro a b c h1 h2
    rcases split h1 with h1 | ⟨h1, e1⟩
    · rcases split h2 with h2 | ⟨h2, e2⟩
      · exact I.ok.inj a b c (hc' h1) (hc' h2)
      · exact absurd hlt (by rw [← e2]; exact Nat.not_lt.mpr (Nat.le_of_lt (old h1)))
    · rcases split h2 with h2 | ⟨h2, e2⟩
      · exact absurd hlt (by rw [← e1]; exact Nat.not_lt.mpr (Nat.le_of_lt (old h2)))
      · rw [h1, h2]
  · intro a h
    by_cases ea : a = clsN
    · subst ea
      show ∃ c, (cellsFrom (s.heap.objs.size + 1) scope.names [] ++ [(clsN, cc)]).lookup clsN = some c
      cases q : (cellsFrom (s.heap.objs.size + 1) scope.names []).lookup clsN with
      | some c => exact ⟨c, look_app q⟩
      | none =>
        refine ⟨cc, ?_⟩
        generalize cellsFrom (s.heap.objs.size + 1) scope.names [] = l at q
        induction l with
        | nil => rw [List.nil_append, List.lookup_cons]; simp
        | cons z l ih =>
          rw [List.lookup_cons] at q
          rw [List.cons_append, List.lookup_cons]
          split at q
          · cases q
          · rw [ih q]
    · obtain ⟨c, hcc2⟩ := I.ok.has a (by rw [← kd ea] at h; exact h)
      exact ⟨c, look_app (hc2 hcc2)⟩
  · intro a c h1 h2
    rcases split h2 with h2 | ⟨h2, e2⟩
    · have := old h2; exact Nat.le_of_lt this
    · subst h2; simp at h1
  · show Option.map _ A.frames = _
    rw [e0.frames]
    rfl
  · obtain ⟨m, h1, h2⟩ := I.loc
    refine ⟨m, h1, fun i y v e1 e2 e3 => ?_⟩
    have hy : y ≠ clsN := fun e => S.nin (e ▸ List.mem_of_getElem? e1)
    obtain ⟨u, ru, lk⟩ := h2 i y v e1 e2 (by
      have e4 : (less scope).names.lookup y = scope.names.lookup y := less_look scope hy
      show (less scope).names.lookup y = _ ∨ (less scope).names.lookup y = _ ∨ (less scope).names.lookup y = _
      rw [e4]
      exact e3)
    refine ⟨u, ru, ?_⟩
    rcases lk with ⟨k1, k2⟩ | ⟨k1, c, k2, k3⟩
    · exact .inl ⟨by rw [← kd hy]; exact k1, k2⟩
    · exact .inr ⟨by rw [← kd hy]; exact k1, c, look_app (hc2 k2), k3⟩
  · intro a c h
    rcases split h with h | ⟨h, e⟩
    · exact I.cell a c (hc' h)
    · subst e; exact ⟨_, cellcc⟩
  · intro a c h
    rcases split h with h | ⟨h, e⟩
    · exact I.freeC a c (hc' h)
    · subst e; exact hH
end
end Dl
/-! D15: super().m(..) as the first thing that a method does. -/
namespace Dl
open PySem PySem.Spec PyProof.Rows L2 Evl
/-- what is known of a method that says super() -/
structure SupFact (P : Program) (K : PySem.W.Frag) (f : Addr) (fd : FuncData) (cdv : Value) (cc D : Addr) : Prop where
  lk : ∃ oc od osl, K.lookup f = some ⟨oc, od, .func fd, osl⟩
  ar : ∃ ar, (fd.params.posonlyargs ++ fd.params.args).head? = some ar ∧ ar.arg = ("self" : Str)
  code : ∃ cda oc vs file tf, cdv = .ref cda ∧ K.lookup cda = some oc ∧ oc.data = .fields vs ∧ vs[2]? = some (.str file tf) ∧ (P.main.file == file) = true
  cell : ∃ o, K.lookup cc = some o ∧ o.data = .cell (some (.ref D))
  nosup : (P.main.scope.names.lookup ("super" : Str)).isSome = false
/-- what super() finds from the class D, of an instance of C -/
structure SupTo (K : PySem.W.Frag) (C D : Addr) (m : Str) (g : Addr) : Prop where
  hC : ∃ cd, PySem.W.clsIn K C = some cd
  hD : ∃ cd, PySem.W.clsIn K D = some cd
  sub : PySem.W.mroIn K C (.ref D) = some true
  at_ : PySem.W.ks_superIn K C D m = some (some (.ref g))
  fn : PySem.W.fnIn K g = true
  ty : PySem.W.typeIn K (.ref g) = some (.type "function")
  op : PySem.W.nsIn K cStatics "thirdparty.any" = some none
structure DEA (X : Cx) (W : WX) (bd : List Stmt) (e : Expr) (t : XE) : Prop where
  run : ∀ {G : Hp} {r : Ro} {m : Mu} {σ : L2.St} {H : Hp} {F : Y → Mu → Prop} {P : XP} {Q : VK}, Rs X.K G σ r → Rh X.K G m H → t r m F P → CvE X.K G F Q → CvX X.K G P (WEx W σ) →
    ∀ (pins : List (Addr × Obj)) (s : Shared), Inv X pins σ H s → PySem.wpAt (model X.prog X.w) X.A (.func bd X.env) (eval e X.env) (EP X pins σ Q) X.xe s
structure DSA (X : Cx) (W : WX) (bd : List Stmt) (st : Stmt) (t : XS) : Prop where
  run : ∀ {G : Hp} {r : Ro} {m : Mu} {σ : L2.St} {H : Hp} {D : DEnds} {E : Ends}, Rs X.K G σ r → Rh X.K G m H → t D r m → Fits X.K W G D E →
    ∀ (pins : List (Addr × Obj)) (s : Shared), Inv X pins σ H s → PySem.wpAt (model X.prog X.w) X.A (.func bd X.env) (exec st X.env) (SP X pins E) X.xe s
structure DSsA (X : Cx) (W : WX) (bd : List Stmt) (sts : List Stmt) (t : XS) : Prop where
  run : ∀ {G : Hp} {r : Ro} {m : Mu} {σ : L2.St} {H : Hp} {D : DEnds} {E : Ends}, Rs X.K G σ r → Rh X.K G m H → t D r m → Fits X.K W G D E →
    ∀ (pins : List (Addr × Obj)) (s : Shared), Inv X pins σ H s → PySem.wpAt (model X.prog X.w) X.A (.func bd X.env) (execs sts X.env) (SP X pins E) X.xe s
section
variable {X : Cx} {W : WX} {bd : List Stmt} {e : Expr} {es : List Expr} {st : Stmt} {sts : List Stmt} {pos : Pos} {t : XE} {u u' : XS} {ta : XA}
theorem dssA_of (h : DSs X W sts u) : DSsA X W bd sts u := ⟨fun rs rh hx f pins s I => wpAt_of_wpAny (h.run rs rh hx f pins s I)⟩
theorem dssA_cons (h1 : DSA X W bd st u) (h2 : DSs X W sts u') : DSsA X W bd (st :: sts) (xSeq u u') := ⟨fun {G r m σ H D E} rs rh hx f pins s I => by
  refine ks_wpAt_execs_cons (ks_wpAt_mono (h1.run (D := { D with nx := u' D }) (E := { E with nx := SSts X sts E }) rs rh hx (f.nx_of fun σ1 r1 G1 m1 H1 e1 rs1 rh1 q => h2.run rs1 rh1 q (f.mono e1)) pins s I) (fun fl s' q => ?_) fun _ _ q => q)
  match fl, q with
  | .next, ⟨σ', H', J, q⟩ => exact wpAt_of_wpAny (q pins s' J)
  | .ret u, q => exact q
  | .brk, q => exact q
  | .cont, q => exact q⟩
theorem dssA_one (h1 : DSA X W bd st u) : DSsA X W bd [st] u := ⟨fun {G r m σ H D E} rs rh hx f pins s I => by
  have h := (dssA_cons h1 (dss_nil (X := X) (W := W))).run (D := D) (E := E) (G := G) (r := r) (m := m) (σ := σ) (H := H) rs rh (by
    show u { D with nx := xNext D } r m
    exact hx) f pins s I
  exact h⟩
theorem dsA_ret (h : DEA X W bd e t) : DSA X W bd (.Return (some e) pos) (xRet t) := ⟨fun {G r m σ H D E} rs rh hx f pins s I =>
  ks_wpAt_Return_some (ks_wpAt_mono (h.run rs rh hx (fun v y G1 m1 H1 e1 rh1 rv1 q => f.rt v y G1 m1 H1 e1 rh1 rv1 q) (f.cx rs) pins s I) (fun v s' ⟨x, H', J, rx, q⟩ => ⟨x, σ, H', J, rx, q⟩) fun _ _ q => q)⟩
theorem dsA_set {i : Nat} {x : Str} {pos' : Pos} (hN : X.N.Nodup) (hi : X.N[i]? = some x) (hx : Loc X.env.scope x) (he : DEA X W bd e t) (hs : swapsWith e (some (.Name x pos')) pos.line X.env = pure false := by rfl) (hf : X.fn x = true ∨ X.env.scope.names.lookup x = some .local := by first | exact .inl rfl | exact .inr rfl | assumption) :
    DSA X W bd (.Assign [.Name x pos'] e pos) (xAsg t (xgName i)) := ⟨fun {G r m σ H D E} rs rh hx' f pins s I =>
  ks_wpAt_Assign_Name (ks_wpAt_mono (he.run rs rh hx' (Q := fun v H1 => E.nx (σ.set i (some v)) H1) (fun v y G1 m1 H1 e1 rh1 rv1 q => f.nx _ _ G1 m1 H1 e1 ((rs.mono e1).set rv1 i) rh1 q) (f.cx rs) pins s I) (fun v s' ⟨x, H', J, rx, q⟩ => store_ok J hN hi hx rx (fun s2 J2 => ⟨_, _, J2, q⟩) hf) fun _ _ q => q) hs⟩
/-- super().m(..): the def at g, of the same object -/
abbrev xSup (C : Addr) (i : Nat) (d : DSp) (ta : XA) : XE := fun r m F P => ∃ a dx gs, r[i]? = some (some (.l a)) ∧ m a = some (.ins C dx gs) ∧ ta r m (fun ys m1 => d (.l a :: ys) m1 F P) P
section
variable {i k : Nat} {f g cc C D : Addr} {fd fdg : FuncData} {cdv : Value} {mn : Str} {p0 p1 apos : Pos} {ps : List Str} {d : DSp}
theorem sup_base {pl : Sem Bool} {args : List Expr} (hsup : Gl X "super") (hms : X.mg "super" = none) (hcl : X.env.kindOf clsN = some .free) (hmn : (mn == clsN) = false) (hfu : X.env.func = some f) (hcd : X.env.code = cdv) (S : SupFact X.prog X.K f fd cdv cc D) (hcc : X.env.cells.lookup clsN = some cc)
    (hsf : X.N[i]? = some ("self" : Str)) (hv : Vis X.env.scope "self") (T : SupTo X.K C D mn g) {pins : List (Addr × Obj)} {s : Shared} {σ : L2.St} {H : Hp} (I : Inv X pins σ H s) {a dx : Addr} {fs : List (Str × V)} (hσ : σ[i]? = some (some (.ref a))) (ha : H a = some (.ins C dx fs)) {Q : Value → Shared → Prop}
    (k : ∀ q s1, Inv X pins σ H s1 → s1.heap.get? q = some (PySem.W.methodObj (.ref g) (.ref a)) → (H q = none ∧ q ≠ X.env.locals ∧ ¬ q ∈ X.fs) → wpAny (model X.prog X.w) X.A (callWith pos (.ref q) [] (backTo pos (starEach args X.env)) []) Q X.xe s1)
    (ht : eval (.Call (.Attribute (.Call (.Name "super" p0) [] [] p1) mn apos) args [] pos) X.env = (attributeBase (.Call (.Name "super" p0) [] [] p1) mn X.env (eval (.Call (.Name "super" p0) [] [] p1) X.env) >>= fun ov => standAt apos.atName >>= fun _ => holding [ov] (getMethod ov mn pl) >>= fun z =>
      callWith pos z.1 z.2 (backTo pos (starEach args X.env)) [])) :
    PySem.wpAt (model X.prog X.w) X.A (.func bd X.env) (eval (.Call (.Attribute (.Call (.Name "super" p0) [] [] p1) mn apos) args [] pos) X.env) Q X.xe s := by
  obtain ⟨oc, od, osl, hlk⟩ := S.lk
  obtain ⟨ar, har, hself⟩ := S.ar
  obtain ⟨cda, ocd, vs, file, tf, rfl, hcda, hvs, hfile, hff⟩ := S.code
  obtain ⟨ocl, hcell, hcv⟩ := S.cell
  obtain ⟨cdC, hC⟩ := T.hC
  obtain ⟨cdD, hD⟩ := T.hD
  have KX := I.kIn
  refine ks_wpAt_MethodCall (pl := pl) (ks_wpAt_super_base hsup hcl hmn hfu (KX _ _ hlk) rfl har hcd (KX _ _ hcda) hvs hfile hff S.nosup ?_) ht
  have hkind := I.ok.kind
  obtain ⟨mb, hmb, hbb⟩ := I.mod.blt
  refine PySem.W.ks_loadName_global hkind hsup (Calls.loadGlobal_builtin (mg := X.mg) (mb := mb) (v := .type "super") (by rw [I.ok.glob]; exact I.mod.glob.keeps I.bk) hms (by rw [I.ok.blt]; exact hmb.keeps I.bk) ((hbb _ (by decide)).trans Boot.super) ⟨rfl, ?_⟩)
  refine wpAny_loadName_free hkind hcl hcc ⟨ocl, KX _ _ hcell, hcv⟩ ?_
  have hD' : ∃ oD, X.K.lookup D = some oD ∧ oD.data = .cls cdD := by
    unfold PySem.W.clsIn at hD
    split at hD
    · rename_i heq
      cases hD
      exact ⟨_, heq, rfl⟩
    · cases hD
  obtain ⟨oD, hoD, hdD⟩ := hD'
  obtain ⟨mA, O, _, _, _, _⟩ := ins_get I.hok ha
  obtain ⟨odx, J, _⟩ := O.look
  have after : wpAny (model X.prog X.w) X.A (PySem.isType (.ref D)) (fun b s4 => b = true ∧ wpAny (model X.prog X.w) X.A (call (.type "super") [.ref D, .ref a]) (fun ov s₁ => wpAny (model X.prog X.w) X.A (getMethod ov mn pl) (fun fx s₂ => wpAny (model X.prog X.w) X.A (callWith pos fx.fst fx.snd (backTo pos (starEach args X.env)) []) Q X.xe s₂) X.xe s₁) X.xe s4) X.xe s := by
    refine ks_wpAny_isType_cls (KX _ _ hoD) hdD ⟨rfl, ?_⟩
    refine ks_wpAny_call_super (KX _ _ hoD) hdD J.at_ J.cls (fun c hc => ?_) (PySem.W.looks_mroIn KX T.sub) fun h' hso keep => ?_
    · have := J.no
      unfold PySem.W.notCls at this
      rw [hc] at this
      cases this
    · have I1 := I.kept (t' := s.toks) keep
      have l1 : PySem.W.Looks (model X.prog X.w) h' (mroOf (.ref C)) cdC.mro := by
        intro A' Q' E' s' hk hq
        show wpAny _ _ (classData C >>= fun c => pure c.mro) _ _ _
        exact wpAny_bind (PySem.W.looks_clsIn (I1.kIn) hC A' _ E' s' hk (wpAny_pure hq))
      have halong : PySem.W.alongIn X.K mn (List.drop 1 (List.dropWhile (fun x => x != Value.ref D) cdC.mro)) = some (some (.ref g)) := by
        have h := T.at_
        unfold PySem.W.ks_superIn at h
        rw [hC] at h
        exact h
      have hty := T.ty
      have hg : ∃ og, X.K.lookup g = some og ∧ og.cls = .type "function" := by
        unfold PySem.W.typeIn at hty
        obtain ⟨og, h1, h2⟩ := Option.map_eq_some_iff.mp hty
        exact ⟨og, h1, h2⟩
      obtain ⟨og, hog, hgc⟩ := hg
      refine ks_wpAny_getMethod_super (K := X.K) hso (PySem.W.looks_opaque I1.kIn T.op) l1 rfl I1.kIn halong (I1.kIn _ _ hog) hgc (PySem.W.ks_ne KX J hC) hmn ?_
      have I2 := I1.kept (h' := h'.push { cls := Value.type "method", data := Data.fields #[Value.ref g, Value.ref a] }) (t' := s.toks + 1) fun b o e => Heap.get?_push_of_some _ e
      exact k _ _ I2 (Heap.get?_push_size _ rfl) ⟨I1.fresh, Nat.ne_of_gt I1.lt, I1.nofs (Nat.le_refl _)⟩
  obtain ⟨m, hm, hlook⟩ := I.loc
  obtain ⟨u, ru, lk⟩ := hlook i "self" (.ref a) hsf hσ hv
  obtain rfl : u = Value.ref a := ru
  rw [hself]
  rcases lk with ⟨k1, k2⟩ | ⟨k1 | k1, c, k2, k3⟩
  · exact wpAny_loadName_local hkind k1 hm k2 after
  · exact wpAny_loadName_cell hkind k1 k2 k3 after
  · exact wpAny_loadName_free hkind k1 k2 k3 after
theorem run_b {pins : List (Addr × Obj)} {σ : L2.St} {H : Hp} {s : Shared} {Q : VK} {us : List Value} {vs : List V} {a q : Addr} (F : FnD X.prog X.w X.K X.mg X.base k g fdg ps d) (hr : Room k X.A) (hg : X.A.guards = some []) (hb : Binds X.K fdg ps [])
    (tk : Takes X W) (I : Inv X pins σ H s) (r : Vals vs us) (h : cz X.K d (.ref a :: vs) H Q (WEx W σ)) (hq : s.heap.get? q = some (PySem.W.methodObj (.ref g) (.ref a))) : wpAny (model X.prog X.w) X.A (call (.ref q) us) (EP X pins σ Q) X.xe s := by
  have rr : Vals (V.ref a :: vs) (Value.ref a :: us) := .cons rfl r
  have hl : ((Value.ref a :: us) ++ []).length = ps.length := by
    obtain ⟨G, m, ys, F', P, _, q2, q3, _⟩ := id h
    rw [List.append_nil, ← rr.length, RVs.length q2]
    exact F.len _ _ _ _ q3
  have hbs := hb s (Value.ref a :: us) I.kIn hl
  rw [List.append_nil] at hbs
  refine wpAny_call (ks_codeAny_call_bound (a := ⟨us, []⟩) hq (codeAny_mono (F.run X.A X.stack s H ⟨Value.ref a :: us, []⟩ (Value.ref a :: us) (V.ref a :: vs) Q (WEx W σ) hg hr I.env0 hbs rr h) fun z s' hz => ?_))
  match z, hz with
  | .error e, hz => exact passAt tk σ pins H s e s' I hz
  | .ok (.ret u), hz => exact I.after hz
  | .ok .next, hz => exact False.elim hz
  | .ok .brk, hz => exact False.elim hz
  | .ok .cont, hz => exact False.elim hz
theorem pin_in {pins : List (Addr × Obj)} {s : Shared} {σ : L2.St} {H : Hp} {q : Addr} {o : Obj} (I : Inv X pins σ H s) (h : s.heap.get? q = some o) (hn : H q = none ∧ q ≠ X.env.locals ∧ ¬ q ∈ X.fs) (hc : ∀ v : Option Value, o.data ≠ .cell v) : Inv X ((q, o) :: pins) σ H s :=
  ⟨I.ok, I.os, I.bare, I.base, I.loc, I.cell, I.free, I.freeC, fun p hp => by
    rcases List.mem_append.mp hp with hp | hp
    · exact I.pin p (List.mem_append.mpr (.inl hp))
    · rcases List.mem_cons.mp hp with rfl | hp
      · exact ⟨h, hn.1, hn.2.1, hn.2.2, hc⟩
      · exact I.pin p (List.mem_append.mpr (.inr hp)), I.hok, I.len⟩
theorem pin_out {pins : List (Addr × Obj)} {s : Shared} {σ : L2.St} {H : Hp} {z : Addr × Obj} (I : Inv X (z :: pins) σ H s) : Inv X pins σ H s ∧ s.heap.get? z.1 = some z.2 :=
  ⟨⟨I.ok, I.os, I.bare, I.base, I.loc, I.cell, I.free, I.freeC, fun p hp => by
    rcases List.mem_append.mp hp with hp | hp
    · exact I.pin p (List.mem_append.mpr (.inl hp))
    · exact I.pin p (List.mem_append.mpr (.inr (List.mem_cons_of_mem _ hp))), I.hok, I.len⟩, (I.pin z (List.mem_append.mpr (.inr (by simp)))).1⟩
theorem dea_sup {pl : Sem Bool} (hsup : Gl X "super") (hms : X.mg "super" = none) (hcl : X.env.kindOf clsN = some .free) (hfu : X.env.func = some f) (hcd : X.env.code = cdv) (S : SupFact X.prog X.K f fd cdv cc D) (hcc : X.env.cells.lookup clsN = some cc)
    (hsf : X.N[i]? = some ("self" : Str)) (hv : Vis X.env.scope "self") (T : SupTo X.K C D mn g) (F : FnD X.prog X.w X.K X.mg X.base k g fdg ps d) (hr : Room k X.A) (hgd : X.A.guards = some []) (tk : Takes X W) (hb : Binds X.K fdg ps []) (ha : DA X W (e :: es) ta) (hmn : (mn == clsN) = false := by decide)
    (hst : starEach (e :: es) X.env = (false, eval e X.env) :: starEach es X.env := by rfl) (hpl : (((backTo pos (starEach (e :: es) X.env)).any fun x => x.fst) || ([] : List (Option Str × Sem Value)).any fun x => x.fst.isNone) = false := by rfl)
    (ht : eval (.Call (.Attribute (.Call (.Name "super" p0) [] [] p1) mn apos) (e :: es) [] pos) X.env = (attributeBase (.Call (.Name "super" p0) [] [] p1) mn X.env (eval (.Call (.Name "super" p0) [] [] p1) X.env) >>= fun ov => standAt apos.atName >>= fun _ => holding [ov] (getMethod ov mn pl) >>= fun z =>
      callWith pos z.1 z.2 (backTo pos (starEach (e :: es) X.env)) []) := by rfl) :
    DEA X W bd (.Call (.Attribute (.Call (.Name "super" p0) [] [] p1) mn apos) (e :: es) [] pos) (xSup C i d ta) := ⟨fun {G r m σ H F' P Q} rs rh hx cv cx pins s I => by
  obtain ⟨a, dx, gs, hra, hma, hx⟩ := hx
  obtain ⟨w, hσ, rw'⟩ := rs.get hra
  cases rw'.loc
  obtain ⟨fs, hH, hf⟩ := rh.ins hma
  have ha' := ha.run (Q := fun vs H1 => cz X.K d (.ref a :: vs) H1 Q (WEx W σ)) rs rh hx (fun vs ys G1 m1 H1 e1 rh1 rv1 q1 => ⟨G1, m1, .l a :: ys, F', P, rh1, .cons (.l a) rv1, q1, cv.mono e1, cx.mono e1⟩) cx
  refine sup_base hsup hms hcl hmn hfu hcd S hcc hsf hv T I hσ hH (fun q s1 I1 hq hn => ?_) ht
  have I2 := pin_in I1 hq hn (fun v h => by cases h)
  refine PySem.W.callWith_of (P := PySem.W.MethP X.K q g (.ref a)) hpl (PySem.W.keeps_M T.fn) ?_
  refine PyProof.Rows.evalArgs_kw2 (kws := []) rfl (thn (ha' pos _ s1 I2) fun us s2 ⟨vs, H2, I3, r2, q2⟩ => ?_) hst
  obtain ⟨I4, hq4⟩ := pin_out I3
  exact wpAny_pure ⟨⟨hq4, I4.kIn⟩, run_b F hr hgd hb tk I4 r2 q2 hq4⟩⟩
theorem dea_sup0 {pl : Sem Bool} (hsup : Gl X "super") (hms : X.mg "super" = none) (hcl : X.env.kindOf clsN = some .free) (hfu : X.env.func = some f) (hcd : X.env.code = cdv) (S : SupFact X.prog X.K f fd cdv cc D) (hcc : X.env.cells.lookup clsN = some cc)
    (hsf : X.N[i]? = some ("self" : Str)) (hv : Vis X.env.scope "self") (T : SupTo X.K C D mn g) (F : FnD X.prog X.w X.K X.mg X.base k g fdg ps d) (hr : Room k X.A) (hgd : X.A.guards = some []) (tk : Takes X W) (hb : Binds X.K fdg ps []) (hmn : (mn == clsN) = false := by decide)
    (ht : eval (.Call (.Attribute (.Call (.Name "super" p0) [] [] p1) mn apos) [] [] pos) X.env = (attributeBase (.Call (.Name "super" p0) [] [] p1) mn X.env (eval (.Call (.Name "super" p0) [] [] p1) X.env) >>= fun ov => standAt apos.atName >>= fun _ => holding [ov] (getMethod ov mn pl) >>= fun z =>
      callWith pos z.1 z.2 (backTo pos (starEach [] X.env)) []) := by rfl) :
    DEA X W bd (.Call (.Attribute (.Call (.Name "super" p0) [] [] p1) mn apos) [] [] pos) (xSup C i d xNil) := ⟨fun {G r m σ H F' P Q} rs rh hx cv cx pins s I => by
  obtain ⟨a, dx, gs, hra, hma, hx⟩ := hx
  obtain ⟨w, hσ, rw'⟩ := rs.get hra
  cases rw'.loc
  obtain ⟨fs, hH, hf⟩ := rh.ins hma
  refine sup_base hsup hms hcl hmn hfu hcd S hcc hsf hv T I hσ hH (fun q s1 I1 hq hn => ?_) ht
  refine PySem.W.callWith_of (P := PySem.W.MethP X.K q g (.ref a)) rfl (PySem.W.keeps_M T.fn) ?_
  exact wpAny_pure ⟨⟨hq, I1.kIn⟩, run_b (us := []) (vs := []) F hr hgd hb tk I1 .nil ⟨G, m, [.l a], F', P, rh, .cons (.l a) .nil, hx, cv, cx⟩ hq⟩⟩
end
end

/-! ### such a def, by its body -/
structure SFun (P : Program) (K : PySem.W.Frag) (x qual : Str) (st : Stmt) (f : Addr) (fd : FuncData) (cdv : Value) (cc D : Addr) : Prop where
  ex : ∃ oc od kV doc pm an ct osl, fd = PySem.W.ksFn x qual (defArgs st) (defBody st) (defScope st) .none kV doc pm an cdv ct cc ∧ K.lookup f = some ⟨oc, od, .func fd, osl⟩ ∧ PySem.W.codeIn K cdv qual = true
  kp : PySem.W.keepIn K (.ref f) = true
  sf : SupFact P K f fd cdv cc D
section
variable {pr : Program} {w : World} {K : PySem.W.Frag} {mg : Str → Option Value} {base : Heap} {x qual : Str} {st : Stmt} {f cc D : Addr} {fd : FuncData} {cdv : Value} {N ps : List Str} {k : Nat} {d : DSp}
theorem SFun.dok (F : SFun pr K x qual st f fd cdv cc D) (S : SupScope N ps (defScope st)) (t : XS)
    (hb : ∀ (A : Around) (outer : List Env) (s : Shared) (H : Hp) (E : XK), Bx (cxS pr w K mg base N qual (defScope st) f cdv cc A outer s H E) (WE1 E) k → PassesOwn (model pr w) (cxS pr w K mg base N qual (defScope st) f cdv cc A outer s H E).A (cxS pr w K mg base N qual (defScope st) f cdv cc A outer s H E).env (cxS pr w K mg base N qual (defScope st) f cdv cc A outer s H E).xe →
      DSsA (cxS pr w K mg base N qual (defScope st) f cdv cc A outer s H E) (WE1 E) (defBody st) (defBody st) t)
    (vc : ∀ ys m F P, d ys m F P → ys.length = ps.length ∧ t { nx := fun _ m => F (.d .none) m, rt := F, ex := fun c fs _ m => P c fs m } (startY N ys) m) : FnD pr w K mg base (k + 1) f fd ps d := by
  obtain ⟨oc, od, kV, doc, pm, an, ct, osl, rfl, lk, hcd⟩ := F.ex
  obtain ⟨ocl, hcc, hoc⟩ := F.sf.cell
  refine ⟨fun ys m F P h => (vc ys m F P h).1, fun A outer s H args us vs Q E hg hr e0 hbd r hsp => ?_⟩
  obtain ⟨G, m, ys, Fy, P, rh, rv, hd, cv, cx⟩ := hsp
  obtain ⟨hl, hvc⟩ := vc ys m Fy P hd
  have hlv : vs.length = ps.length := by rw [RVs.length rv]; exact hl
  have KX : K.In s.heap := e0.mod.kin.keeps fun b o e => (e0.bs b o e).1
  have hkind : ∀ y ∈ ps.zip us, (defScope st).names.lookup y.1 = some .local ∨ ((defScope st).names.lookup y.1 = some .cell ∧ ((cellsFrom (s.heap.objs.size + 1) (defScope st).names []).lookup y.1).isSome = true) := by
    rintro ⟨n, v⟩ hy
    have hn := (List.of_mem_zip hy).1
    have q := S.fs.par n hn
    rw [less_look _ (S.pin n hn)] at q
    exact q.imp id fun q => ⟨q, PySem.W.cellsFrom_some _ _ _ (.inl q)⟩
  refine codeAny_call_function hr.depth (KX _ _ lk) rfl S.fs.co S.fs.gen rfl (PySem.W.codeRec_of KX hcd) (hbd _ _ _ _ ?_)
  refine newFn_cl S.fs.kind hkind fun s1 x => ?_
  refine ⟨(e0.mod.nolimit.keeps fun b o e => (e0.bs b o e).1).keeps x.toInCall.keep, ks_codeAny_funcAt ?_⟩
  have gd : (A.deeper (envS qual (defScope st) s.heap.objs.size f cdv cc)).guards = some [] := hg
  have hbx : Bx (cxS pr w K mg base N qual (defScope st) f cdv cc A outer s H E) (WE1 E) k := ⟨hr.deeper _, gd, takes_of rfl rfl rfl rfl⟩
  have I := inv_sup (qual := qual) (f := f) (cd := cdv) (E := E) (N := N) S hr.hd e0 hlv r hcc hoc x
  have go := (hb A outer s H E hbx (passes_of rfl)).run (E := { nx := fun _ H' => Q .non H', rt := Q }) (start_rs (N := N) rv) rh hvc
    ⟨fun σ r G' m H' e1 _ rh1 q => cv .non _ G' m H' e1 rh1 (.d .non) q, fun v y G' m H' e1 rh1 rv1 q => cv v y G' m H' e1 rh1 rv1 q, fun _ _ _ _ _ _ _ _ q => q.elim, fun _ _ _ _ _ _ _ _ q => q.elim,
      fun c d fs σ r G' m H' e1 _ rh1 xf q => cx c d fs G' m H' e1 rh1 xf q⟩ [] s1 I
  have fin : ∀ {s' : Shared} {σ' : L2.St} {H' : Hp} {v : V} {u : Value}, Inv (cxS pr w K mg base N qual (defScope st) f cdv cc A outer s H E) [] σ' H' s' → RelV v u → Q v H' → CE outer pr w H s Q u s' :=
    fun J rv q => ⟨_, _, J.os, J.bare, J.base, J.hok, rv, q⟩
  refine ks_wpAt_mono go (fun fl s' hs => ?_) fun e s' hs => hs
  match fl, hs with
  | .ret u, ⟨v, σ', H', J, rv, q⟩ => exact fin J rv q
  | .next, ⟨σ', H', J, q⟩ => exact fin (v := V.non) (u := Value.none) J rfl q
  | .brk, ⟨_, _, _, q⟩ => exact False.elim q
  | .cont, ⟨_, _, _, q⟩ => exact False.elim q
end
end Dl
/-! D16: what is above, by what is known; one of several promises. -/
namespace Dl
open PySem PySem.Spec PyProof.Rows L2 Evl
section
variable {pr : Program} {w : World} {K : PySem.W.Frag} {mg : Str → Option Value} {base : Heap} {f : Addr} {fd : FuncData} {ps : List Str} {d d' : DSp} {k : Nat}
theorem FnD.or (F : FnD pr w K mg base k f fd ps d) (F' : FnD pr w K mg base k f fd ps d') : FnD pr w K mg base k f fd ps (fun ys m F P => d ys m F P ∨ d' ys m F P) := by
  refine ⟨fun ys m F1 P h => h.elim (F.len _ _ _ _) (F'.len _ _ _ _), fun A outer s H args us vs Q E hg hr e0 hb hv hc => ?_⟩
  obtain ⟨G, m, ys, F1, P, h1, h2, h3, h4, h5⟩ := hc
  rcases h3 with h3 | h3
  · exact F.run A outer s H args us vs Q E hg hr e0 hb hv ⟨G, m, ys, F1, P, h1, h2, h3, h4, h5⟩
  · exact F'.run A outer s H args us vs Q E hg hr e0 hb hv ⟨G, m, ys, F1, P, h1, h2, h3, h4, h5⟩
/-- the method that super() finds -/
structure UF (pr : Program) (w : World) (K : PySem.W.Frag) (mg : Str → Option Value) (base : Heap) (C D : Addr) (x : Str) (k : Nat) (g : Addr) (fd : FuncData) (ps : List Str) (d : DSp) : Prop where
  fn : FnD pr w K mg base k g fd ps d
  bn : Binds K fd ps []
  to : SupTo K C D x g
end
section
variable {X : Cx} {W : WX} {bd : List Stmt} {e : Expr} {es : List Expr} {pos : Pos} {t t' : XE} {ta : XA} {i j k : Nat} {f g cc C D : Addr} {fd fdg : FuncData} {cdv : Value} {mn : Str} {p0 p1 apos : Pos} {ps : List Str} {d : DSp}
theorem de_alt (h : DE X W e t) (h' : DE X W e t') : DE X W e (fun r m F P => t r m F P ∨ t' r m F P) := ⟨fun rs rh hx cv cx => by
  rcases hx with hx | hx
  · exact h.run rs rh hx cv cx
  · exact h'.run rs rh hx cv cx⟩
theorem dea_uf {pl : Sem Bool} (hms : X.mg "super" = none) (S : SupFact X.prog X.K f fd cdv cc D) (U : UF X.prog X.w X.K X.mg X.base C D mn k g fdg ps d) (hr : Room j X.A) (hgd : X.A.guards = some []) (tk : Takes X W) (ha : DA X W (e :: es) ta) (hk : k ≤ j := by decide)
    (hsup : Gl X "super" := by rfl) (hcl : X.env.kindOf clsN = some .free := by rfl) (hfu : X.env.func = some f := by rfl) (hcd : X.env.code = cdv := by rfl) (hcc : X.env.cells.lookup clsN = some cc := by rfl) (hsf : X.N[0]? = some ("self" : Str) := by rfl) (hv : Vis X.env.scope "self" := by first | exact .inl rfl | exact .inr (.inl rfl)) (hmn : (mn == clsN) = false := by decide)
    (hst : starEach (e :: es) X.env = (false, eval e X.env) :: starEach es X.env := by rfl) (hpl : (((backTo pos (starEach (e :: es) X.env)).any fun x => x.fst) || ([] : List (Option Str × Sem Value)).any fun x => x.fst.isNone) = false := by rfl)
    (ht : eval (.Call (.Attribute (.Call (.Name "super" p0) [] [] p1) mn apos) (e :: es) [] pos) X.env = (attributeBase (.Call (.Name "super" p0) [] [] p1) mn X.env (eval (.Call (.Name "super" p0) [] [] p1) X.env) >>= fun ov => standAt apos.atName >>= fun _ => holding [ov] (getMethod ov mn pl) >>= fun z =>
      callWith pos z.1 z.2 (backTo pos (starEach (e :: es) X.env)) []) := by rfl) :
    DEA X W bd (.Call (.Attribute (.Call (.Name "super" p0) [] [] p1) mn apos) (e :: es) [] pos) (xSup C 0 d ta) := dea_sup hsup hms hcl hfu hcd S hcc hsf hv U.to U.fn (hr.mono hk) hgd tk U.bn ha hmn hst hpl ht
theorem dea_uf0 {pl : Sem Bool} (hms : X.mg "super" = none) (S : SupFact X.prog X.K f fd cdv cc D) (U : UF X.prog X.w X.K X.mg X.base C D mn k g fdg ps d) (hr : Room j X.A) (hgd : X.A.guards = some []) (tk : Takes X W) (hk : k ≤ j := by decide)
    (hsup : Gl X "super" := by rfl) (hcl : X.env.kindOf clsN = some .free := by rfl) (hfu : X.env.func = some f := by rfl) (hcd : X.env.code = cdv := by rfl) (hcc : X.env.cells.lookup clsN = some cc := by rfl) (hsf : X.N[0]? = some ("self" : Str) := by rfl) (hv : Vis X.env.scope "self" := by first | exact .inl rfl | exact .inr (.inl rfl)) (hmn : (mn == clsN) = false := by decide)
    (ht : eval (.Call (.Attribute (.Call (.Name "super" p0) [] [] p1) mn apos) [] [] pos) X.env = (attributeBase (.Call (.Name "super" p0) [] [] p1) mn X.env (eval (.Call (.Name "super" p0) [] [] p1) X.env) >>= fun ov => standAt apos.atName >>= fun _ => holding [ov] (getMethod ov mn pl) >>= fun z =>
      callWith pos z.1 z.2 (backTo pos (starEach [] X.env)) []) := by rfl) :
    DEA X W bd (.Call (.Attribute (.Call (.Name "super" p0) [] [] p1) mn apos) [] [] pos) (xSup C 0 d xNil) := dea_sup0 hsup hms hcl hfu hcd S hcc hsf hv U.to U.fn (hr.mono hk) hgd tk U.bn hmn ht
/-- a, b, c = .. -/
abbrev xPar3 (i j l : Nat) (ta : XA) : XS := fun D r m => ta r m (fun ys m1 => ∃ y z w, ys = [y, z, w] ∧ D.nx (((r.set i (some y)).set j (some z)).set l (some w)) m1) (D.at r)
theorem rvs3 {K : PySem.W.Frag} {G : Hp} {vs : List V} {y z u : Y} (h : RVs K G vs [y, z, u]) : ∃ v w x, vs = [v, w, x] ∧ RV K G v y ∧ RV K G w z ∧ RV K G x u := by
  cases h with
  | cons h t =>
    obtain ⟨v, w, rfl, h1, h2⟩ := rvs2 t
    exact ⟨_, _, _, rfl, h, h1, h2⟩
theorem ds_par3 {i j l : Nat} {x y z : Str} {a b c : Expr} {tx : XA} {px py pz pt : Pos} {kt k2 pt2} (hc : X.calm = true) (hN : X.N.Nodup) (hi : X.N[i]? = some x) (hj : X.N[j]? = some y) (hl : X.N[l]? = some z) (hij : i ≠ j) (hil : i ≠ l) (hjl : j ≠ l)
    (hx : X.env.scope.names.lookup x = some .local) (hy : X.env.scope.names.lookup y = some .local) (hz : X.env.scope.names.lookup z = some .local) (ha : DA X W [a, b, c] tx)
    (hw : swappedStores [.Tuple [.Name x px, .Name y py, .Name z pz] kt pt] (.Tuple [a, b, c] k2 pt2) X.env = pure (some [x, y, z]))
    (hs : swapsWithSole [.Tuple [.Name x px, .Name y py, .Name z pz] kt pt] (.Tuple [a, b, c] k2 pt2) pos.line X.env = pure false := by rfl) :
    DS X W (.Assign [.Tuple [.Name x px, .Name y py, .Name z pz] kt pt] (.Tuple [a, b, c] k2 pt2) pos) (xPar3 i j l tx) := ⟨fun {G r m σ H D E} rs rh hx' f =>
  ss_of (ps_par3 hc hN hi hj hl hij hil hjl hx hy hz sa_pa hw hs) (ha.run rs rh hx' (fun vs ys G1 m1 H1 e1 rh1 rv1 ⟨y1, z1, w1, q, q2⟩ => by
    subst q
    obtain ⟨v, w, u, rfl, r1, r2, r3⟩ := rvs3 rv1
    exact ⟨v, w, u, rfl, f.nx _ _ G1 m1 H1 e1 ((((rs.mono e1).set r1 i).set r2 j).set r3 l) rh1 q2⟩) (f.cx rs))⟩
/-- int(flag) -/
abbrev xIntB : XRC := fun ys m F => ∃ b : Bool, ys = [.d (.bool b)] ∧ F (.d (.int (if b = true then 1 else 0))) m
theorem cd_int : CallD X (.type "int") xIntB := ⟨_, call_int1, fun {G m H vs ys F Q} rh rv hx cv => by
  obtain ⟨b, rfl, f⟩ := hx
  obtain ⟨v, rfl, r1⟩ := rvs1 rv
  refine .inr ⟨b, by rw [r1.bl], ?_⟩
  have := cv.at (v := V.int (if b = true then 1 else 0)) rh (.d (Da.int _)) f
  cases b <;> exact this⟩
end
end Dl
namespace Dl
open PySem PySem.Spec PyProof.Rows L2 Evl
theorem SFun.binds {P : Program} {K : PySem.W.Frag} {x qual : Str} {st : Stmt} {f cc D : Addr} {fd : FuncData} {cdv : Value} {ps : List Str} (F : SFun P K x qual st f fd cdv cc D)
    (h : ∀ (kV doc pm : Value) (an : Option Addr) (ct : Value) (us : List Value), us.length = ps.length → bindArgs (PySem.W.ksFn x qual (defArgs st) (defBody st) (defScope st) .none kV doc pm an cdv ct cc) { pos := us } = pure (ps.zip us)) : L2.Binds K fd ps [] := by
  obtain ⟨oc, od, kV, doc, pm, an, ct, osl, rfl, _, _⟩ := F.ex
  intro s us _ hl
  rw [List.append_nil] at hl ⊢
  exact .of_eq (h _ _ _ _ _ us hl)
end Dl
/-! D17: max of a list of pairs of whole numbers; a whole number in a tuple of them. -/
namespace Dl
open PySem PySem.Spec PyProof.Rows L2 Evl
section
variable {X : Cx} {W : WX} {K : PySem.W.Frag} {G H : Hp} {m : Mu}
def mxP (p : Int × Int) (ps : List (Int × Int)) : Int × Int := ps.foldl (fun a y => if PySem.W.dataLt (prD a) (prD y) = true then y else a) p
theorem mxP_data : ∀ (ps : List (Int × Int)) (p : Int × Int), PySem.W.maxD (prD p) (ps.map prD) = prD (mxP p ps)
  | [], _ => rfl
  | q :: ps, p => by
    show PySem.W.maxD (if PySem.W.dataLt (prD p) (prD q) = true then prD q else prD p) (ps.map prD) = prD (mxP (if PySem.W.dataLt (prD p) (prD q) = true then q else p) ps)
    rw [← mxP_data ps]
    congr 1
    split <;> rfl
theorem mxP_mem : ∀ (ps : List (Int × Int)) (p : Int × Int), mxP p ps ∈ p :: ps
  | [], p => by simp [mxP]
  | q :: ps, p => by
    show mxP (if PySem.W.dataLt (prD p) (prD q) = true then q else p) ps ∈ _
    have h := mxP_mem ps (if PySem.W.dataLt (prD p) (prD q) = true then q else p)
    rcases List.mem_cons.mp h with h | h
    · rw [h]
      split <;> simp
    · simp [h]
theorem pr_facts (ps : List (Int × Int)) : PyData.hasDictAll (ps.map prD) = false ∧ PyData.depthAll (ps.map prD) ≤ 3 := by
  induction ps with
  | nil => simp [PyData.hasDictAll, PyData.depthAll]
  | cons p ps ih =>
    obtain ⟨h1, h2⟩ := ih
    refine ⟨by simp [PyData.hasDictAll, prD, PyData.hasDict, h1], ?_⟩
    simp [PyData.depthAll, prD, PyData.depth]
    omega
theorem pr_alike (ps : List (Int × Int)) : PySem.W.AlikeAll (ps.map prD) := by
  refine ⟨fun x hx y hy => ?_, fun x hx => ?_⟩
  · obtain ⟨p, _, rfl⟩ := List.mem_map.mp hx
    obtain ⟨q, _, rfl⟩ := List.mem_map.mp hy
    rfl
  · obtain ⟨p, _, rfl⟩ := List.mem_map.mp hx
    intro h; cases h
abbrev xMaxP : XRC := fun ys m F => ∃ p ps, ys = [.d (.list ((p :: ps).map prD))] ∧ F (.d (prD (mxP p ps))) m
theorem cd_maxP (hc : X.calm = true) (hu : X.A.units + 64 < cLine) : CallD X (.builtin "max") xMaxP := by
  refine ⟨fun vs H Q => ∃ a xs p ps, vs = [V.ref a] ∧ SqL X.K H a xs ∧ DaAll X.K H xs ((p :: ps).map prD) ∧ ∀ (i : Nat) (v : V), xs[i]? = some v → ((p :: ps).map prD)[i]? = some (prD (mxP p ps)) → Q v H, ?_, fun {G m H vs ys F Q} rh rv hx cv => ?_⟩
  · intro pins s σ H vs us Q I r ⟨a, xs, p, ps, ev, hs, hd, q⟩
    subst ev
    obtain ⟨its, rv, hl, hz⟩ := I.list hs
    obtain ⟨u, rfl, ru⟩ := vals1 r
    obtain rfl : u = Value.ref a := ru
    obtain ⟨f1, f2⟩ := pr_facts (p :: ps)
    obtain ⟨as, rd⟩ := DaAll.reads I f1 hd rv
    refine PySem.W.max_list_data (as := as) (I.ok.hd hc) hl.isList (by rw [List.toList_toArray]; exact rd) (pr_alike (p :: ps)) (by
      have f2' : PyData.depthAll (prD p :: ps.map prD) ≤ 3 := f2
      omega) fun i v h' tk bs hi hr keep => ?_
    rw [List.getElem?_toArray] at hi
    have I' := I.kept (t' := tk) keep
    have hlen := rv.length
    obtain ⟨hil, _⟩ := List.getElem?_eq_some_iff.mp hi
    have hix : i < xs.length := by rw [hlen]; exact hil
    have hw : xs[i]? = some xs[i] := List.getElem?_eq_getElem hix
    have hrel : RelV xs[i] v := by
      have go : ∀ {xs : List V} {its : List Value} {i : Nat} {x : V} {v : Value}, Vals xs its → xs[i]? = some x → its[i]? = some v → RelV x v := by
        intro xs its i x v h
        induction h generalizing i with
        | nil => intro e; simp at e
        | cons h t ih =>
          intro e1 e2
          cases i with
          | zero => simp at e1 e2; subst e1 e2; exact h
          | succ i => exact ih (by simpa using e1) (by simpa using e2)
      exact go rv hw hi
    obtain ⟨d, hd1, hd2⟩ := DaAll.get' hd hw
    have hmem : d ∈ (p :: ps).map prD := List.mem_of_getElem? hd1
    obtain ⟨pp, _, rfl⟩ := List.mem_map.mp hmem
    obtain ⟨as2, hr2⟩ := Da.reads I' (by simp [prD, PyData.hasDict, PyData.hasDictAll]) hd2 hrel
    have e : prD pp = PySem.W.maxD (prD p) (ps.map prD) := PySem.SeqAt.Reads.unique _ _ v _ _ (by simp [prD, PyData.canLay0, PyData.canLayAll0]) hr2 hr
    rw [mxP_data] at e
    exact ⟨xs[i], H, I', hrel, q i _ hw (by rw [hd1, e])⟩
  · obtain ⟨p, ps, rfl, f⟩ := hx
    obtain ⟨v, rfl, rw⟩ := rvs1 rv
    obtain ⟨a, ws, rfl, s1, q1⟩ := rw.lst
    refine ⟨a, ws, p, ps, rfl, .inl (rd_sub rh s1), q1.mono rh.sub, fun i v hi hd => ?_⟩
    obtain ⟨d, hd1, hd2⟩ := DaAll.get' q1 hi
    rw [hd] at hd1
    cases hd1
    exact cv.at rh (.d hd2) f
/-- a whole number in a list of them -/
theorem inD_int {i : Int} : ∀ {ns : List Int}, inD (.int i) (ns.map PyData.int) = decide (i ∈ ns) := by
  intro ns
  unfold inD inV
  induction ns with
  | nil => rfl
  | cons n ns ih =>
    rw [List.map_cons, List.map_cons, List.any_cons, ih]
    have e : eqV (toV (.int n)) (toV (.int i)) = decide (n = i) := rfl
    rw [e]
    by_cases h : n = i
    · subst h; simp
    · have h' : ¬ i = n := fun z => h z.symm
      simp [h, h']
end
end Dl
/-! D18: sorted of data, list or tuple; remove. -/
namespace Dl
open PySem PySem.Spec PyProof.Rows L2 Evl PySem.W
section
variable {pr : Program} {w : World} {A : Around} {E : Value → Shared → Prop} {s : Shared}
theorem collectT {t : Addr} {us : List Value} {Q : List Value → Shared → Prop} (ht : s.heap.IsTuple t us.toArray) (hz : us.length ≤ sizeLine)
    (h : Q us { s with heap := (s.heap.push (seqObj "list" #[] 0)).update s.heap.objs.size (Obj.mapSeq (· ++ us.toArray)) }) : wpAny (model pr w) A (collect (.ref t)) Q E s := by
  obtain ⟨o, e1, e2, n, e3⟩ := id ht
  have e1' := Heap.get?_push_of_some (seqObj "list" #[] 0) e1
  unfold collect
  refine wpAny_bind (wpAny_runValue (codeAny_builtin entry_proto_collect' (show wpAny _ _ (do again (.builtin "list.__iadd__" ⟨[← newList [], .ref t], []⟩)) _ _ s from ?_)))
  refine wpAny_bind (wpAny_newList (wpAny_pure ⟨Code.quiet_builtin _ (by decide +kernel), codeAny_builtin entry_list_iadd' (show wpAny _ _ (Builtin.List.listExtendWith (.ref s.heap.objs.size) (.ref t) (.ref s.heap.objs.size)) _ _ { s with heap := s.heap.push (seqObj "list" #[] 0) } from ?_)⟩))
  unfold Builtin.List.listExtendWith
  refine wpAny_bind (wpAny_typeOf (T := "tuple") ⟨o, e1', e2⟩ ?_)
  rw [if_pos (by rw [show (Value.type "tuple" == Value.type "tuple") = true from rfl]; simp)]
  refine wpAny_bind (listItems_at e1' e3 (wpAny_bind (listItems_at (xs := #[]) (n := 0) (Heap.get?_push_size _ rfl) rfl ?_)))
  rw [if_neg (by simp)]
  have hz' : (#[] ++ us.toArray).size ≤ sizeLine + 1 := by simp only [Array.size_append, List.size_toArray, List.length_nil]; omega
  refine wpAny_bind (listUpdate_at (xs := #[]) (n := 0) (Heap.get?_push_size _ rfl) rfl (wpAny_pure (show wpAny (model pr w) A (do
      let o ← load s.heap.objs.size
      match o.data with
      | .seq z _ => pure z.toList
      | _ => unsupported "internal:collect") Q E { s with heap := (s.heap.push (seqObj "list" #[] 0)).update s.heap.objs.size (Obj.mapSeq (· ++ us.toArray)) } from ?_)) (Nat.zero_le _) hz')
  refine wpAny_bind (wpAny_load (get?_update_seq (Heap.get?_push_size _ rfl) _) (show wpAny _ _ (pure ((#[] : Array Value) ++ us.toArray).toList) Q E _ from ?_))
  rw [show ((#[] : Array Value) ++ us.toArray).toList = us by simp]
  exact wpAny_pure h
theorem sortedT {β : Type} {R : Value → β → Prop} {enc : β → PyData} {bs : List β} {t : Addr} {us : List Value} {Q : Value → Shared → Prop} (ht : s.heap.IsTuple t us.toArray) (e : EachIs R us bs) (er : EachIs (fun v b => ∃ as, Reads s.heap v (enc b) as) us bs)
    (hal : AllAlike (bs.map enc)) (hk : Sortable (bs.map enc)) (hL : bs.length ≤ sizeLine) (hu : ∀ b, b ∈ bs → A.units + 2 + (enc b).depth < cLine)
    (h : ∀ out, out.length = bs.length → EachIs R out (bs.mergeSort (dataLe false enc)) → Q (.ref (s.heap.objs.size + 1)) { s with heap := sortedAll s.heap us (List.toArray out) }) : wpAny (model pr w) A (call (.builtin "sorted") [.ref t]) Q E s := by
  have hz : us.length ≤ sizeLine := by rw [e.length]; exact hL
  have er' : EachIs (fun v b => ∃ as, Reads (sortingHeap (copyHeap s.heap us) (s.heap.objs.size + 1) us) v (enc b) as) us bs := er.mono fun _ _ ⟨x, r⟩ => ⟨x, PyProof.Rows.Reads.keeps (fun _ _ => sorting_copy_old) r⟩
  have bnd : ∀ d, d ∈ bs.map enc → A.in1.in1.units + d.depth < cLine := fun d hd => by
    obtain ⟨b, hb, rfl⟩ := List.mem_map.mp hd
    exact hu b hb
  have S := SortsAt.data (prog := pr) (w := w) (A := A.in1.in1) (s := { s with heap := sortingHeap (copyHeap s.heap us) (s.heap.objs.size + 1) us }) (each_map (R := fun v d => ∃ x, Reads (sortingHeap (copyHeap s.heap us) (s.heap.objs.size + 1) us) v d x) enc er') hal hk bnd
  have fin := h _ (by rw [sortVals_length false rfl]; exact e.length) (sortVals_data false e er' hal)
  refine call_function_entry_kw kind_sorted plain_sorted entry_sorted (args_sorted1 _) ?_
  unfold Builtin.«sorted»
  refine wpAny_bind (m := checkCount "sorted" 1 1 _) (wpAny_pure (wpAny_bind (collectT ht hz (wpAny_bind (wpAny_newList ?_ hz)))))
  have sz : ((s.heap.push (seqObj "list" #[] 0)).update s.heap.objs.size (Obj.mapSeq (· ++ us.toArray))).objs.size = s.heap.objs.size + 1 := by rw [Heap.size_update, size_push']
  show wpAny _ _ _ _ _ { s with heap := copyHeap s.heap us }
  rw [sz]
  refine wpAny_bind (wpAny_holding (wpAny_call_entry_kw slot_list_sort ⟨_, copyHeap_at s.heap us, rfl⟩ entry_list_sort (show wpAny (model pr w) A.in1.in1 (Builtin.«list.sort» ⟨[.ref (s.heap.objs.size + 1)], []⟩) _ _ _ from ?_) (args_list_sort _)))
  refine wpAny_mono (list_sort_vals (s := { s with heap := copyHeap s.heap us }) (P := fun f s' => f = .done (.ret .none) ∧ Q (.ref (s.heap.objs.size + 1)) s') (copyHeap_at s.heap us) S hz ⟨rfl, fin⟩) (fun f s' hf => ?_) fun _ _ e => e
  obtain ⟨rfl, hq⟩ := hf
  exact ⟨_, rfl, wpAny_pure ⟨_, rfl, hq⟩⟩
end
section
variable {X : Cx} {K : PySem.W.Frag} {G H : Hp} {m : Mu}
/-- data in order -/
def srtD (ds : List PyData) : List PyData := ds.mergeSort (dataLe false id)
abbrev xSortedD : XRC := fun ys m F => ∃ y ds, ys = [y] ∧ SqY m y (ds.map Y.d) ∧ AllAlike ds ∧ Sortable ds ∧ PyData.hasDictAll ds = false ∧ ds.length ≤ 10000 ∧ (∀ d ∈ ds, d.depth ≤ 20) ∧ F (.d (.list (srtD ds))) m
theorem each_vals {α : Type} {f : α → V} : ∀ {us : List Value} {bs : List α}, EachIs (fun v b => RelV (f b) v) us bs → Vals (bs.map f) us
  | _, _, .nil => .nil
  | _, _, .cons h t => .cons h (each_vals t)
theorem das_zip : ∀ {vs : List V} {ds : List PyData}, DaAll K H vs ds → ∀ z ∈ vs.zip ds, Da K H z.1 z.2
  | _, _, .nil, z, hz => nomatch hz
  | _, _, .cons h t, z, hz => by
    rw [List.zip_cons_cons] at hz
    rcases List.mem_cons.mp hz with rfl | hz
    · exact h
    · exact das_zip t z hz
theorem das_unzip : ∀ {zs : List (V × PyData)}, (∀ z ∈ zs, Da K H z.1 z.2) → DaAll K H (zs.map (·.1)) (zs.map (·.2))
  | [], _ => .nil
  | z :: zs, h => .cons (h z (by simp)) (das_unzip fun x hx => h x (by simp [hx]))
theorem cd_sortedD (hu : X.A.units + 64 < cLine) : CallD X (.builtin "sorted") xSortedD := by
  refine ⟨fun vs H Q => ∃ a xs ds, vs = [V.ref a] ∧ (SqL X.K H a xs ∨ SqT X.K H a xs) ∧ DaAll X.K H xs ds ∧ AllAlike ds ∧ Sortable ds ∧ PyData.hasDictAll ds = false ∧ ds.length ≤ sizeLine ∧ (∀ d ∈ ds, d.depth ≤ 20) ∧
    ∀ (zs : List (V × PyData)) d, H d = none → zs.Perm (xs.zip ds) → zs.map (·.2) = srtD ds → Q (.ref d) (upd H d (.lst (zs.map (·.1)))), ?_, fun {G m H vs ys F Q} rh rv hx cv => ?_⟩
  · intro pins s σ H vs us Q I r ⟨a, xs, ds, ev, hs, hda, hal, hk, hnd, hl, hdp, q⟩
    subst ev
    obtain ⟨u, rfl, ru⟩ := vals1 r
    obtain rfl : u = Value.ref a := ru
    have hxl : xs.length = ds.length := hda.length
    have e2 : (xs.zip ds).map (·.2) = ds := by rw [List.map_snd_zip]; omega
    have e1 : (xs.zip ds).map (·.1) = xs := by rw [List.map_fst_zip]; omega
    have zl : (xs.zip ds).length = ds.length := by rw [List.length_zip]; omega
    have go : ∀ its : List Value, Vals xs its → (s.heap.IsList a its.toArray ∨ s.heap.IsTuple a its.toArray) → wpAny (model X.prog X.w) X.A (call (.builtin "sorted") [.ref a]) (EP X pins σ Q) X.xe s := by
      intro its rvs hc
      have e : ∀ {xs : List V} {ds : List PyData} {its : List Value}, xs.length = ds.length → Vals xs its → EachIs (fun v (b : V × PyData) => RelV b.1 v) its (xs.zip ds) := by
        intro xs
        induction xs with
        | nil => intro ds its h r; cases r; exact .nil
        | cons x xs ih =>
          intro ds its h r
          cases ds with
          | nil => simp at h
          | cons d ds => cases r with | cons r1 r2 => exact .cons r1 (ih (by simpa using h) r2)
      have er : ∀ {xs : List V} {ds : List PyData} {its : List Value}, PyData.hasDictAll ds = false → DaAll X.K H xs ds → Vals xs its → EachIs (fun v (b : V × PyData) => ∃ as, Reads s.heap v b.2 as) its (xs.zip ds) := by
        intro xs
        induction xs with
        | nil => intro ds its nd h r; cases h; cases r; exact .nil
        | cons x xs ih =>
          intro ds its nd h r
          cases h with
          | cons h t =>
            simp [PyData.hasDictAll] at nd
            cases r with | cons r1 r2 => exact .cons (Da.reads I nd.1 h r1) (ih nd.2 t r2)
      have fin : ∀ out : List Value, out.length = (xs.zip ds).length → EachIs (fun v (b : V × PyData) => RelV b.1 v) out ((xs.zip ds).mergeSort (dataLe false (fun b => b.2))) →
          EP X pins σ Q (.ref (s.heap.objs.size + 1)) { s with heap := sortedAll s.heap its (List.toArray out) } := by
        intro out ho hr
        obtain ⟨n, hn⟩ := sortedAll_at s.heap its out.toArray
        have hd : s.heap.objs.size ≤ s.heap.objs.size + 1 := Nat.le_succ _
        have pm := List.mergeSort_perm (xs.zip ds) (dataLe false (fun b => b.2))
        have sm : ((xs.zip ds).mergeSort (dataLe false (fun b => b.2))).map (·.2) = srtD ds := by
          have z := List.map_mergeSort (r := dataLe false fun b : V × PyData => b.2) (s := dataLe false id) (f := fun b : V × PyData => b.2) (l := xs.zip ds) (fun _ _ _ _ => rfl)
          rw [z, e2]; rfl
        have f := q _ (s.heap.objs.size + 1) (I.hok.fresh hd) pm sm
        have ly : (((xs.zip ds).mergeSort (dataLe false (fun b => b.2))).map (·.1)).length ≤ sizeLine := by rw [List.length_map, pm.length_eq, zl]; exact hl
        exact ⟨.ref _, upd H _ (.lst _), I.laid (t' := s.toks) (fun _ _ => sortedAll_old) hd ⟨ly, out, n, each_vals hr, hn⟩, rfl, f⟩
      rcases hc with hc | hc
      · exact PySem.W.sorted_data hc (e hxl rvs) (er hnd hda rvs) (by rw [e2]; exact hal) (by rw [e2]; exact hk) (by rw [zl]; exact hl) (fun b hb => by have := hdp b.2 (by rw [← e2]; exact List.mem_map_of_mem hb); omega) fin
      · exact sortedT hc (e hxl rvs) (er hnd hda rvs) (by rw [e2]; exact hal) (by rw [e2]; exact hk) (by rw [zl]; exact hl) (fun b hb => by have := hdp b.2 (by rw [← e2]; exact List.mem_map_of_mem hb); omega) fin
    rcases hs with hs | hs
    · obtain ⟨its, r1, h1, _⟩ := I.list hs
      exact go its r1 (.inl h1.isList)
    · obtain ⟨its, r1, h1, _⟩ := I.tuple hs
      exact go its r1 (.inr h1)
  · obtain ⟨y, ds, rfl, hs, hal, hk, hnd, hl, hdp, f⟩ := hx
    obtain ⟨v, rfl, rw⟩ := rvs1 rv
    obtain ⟨p, ws, rfl, s1, q1⟩ := sqY_ok rh rw hs
    have q2 := RVs.das q1
    refine ⟨p, ws, ds, rfl, s1, q2.mono rh.sub, hal, hk, hnd, Nat.le_trans hl szl, hdp, fun zs d hd hz hs => ?_⟩
    have r1 := das_unzip fun z h => das_zip q2 z (hz.mem_iff.mp h)
    rw [hs] at r1
    exact lstD_ok rh r1.rvs hd f cv
/-- l.remove(x), x in l -/
abbrev xRemD : XRM := fun y ys m F => ∃ p ds d j, y = .l p ∧ ys = [.d d] ∧ m p = some (.lst (ds.map Y.d)) ∧ PyData.plainAll ds = true ∧ d.plain = true ∧ PyData.hasDictAll ds = false ∧ d.hasDict = false ∧ d.depth ≤ 20 ∧ SeqAt.dataPlace ds d = some j ∧ F (.d .none) (mu m p (.lst ((ds.eraseIdx j).map Y.d)))
theorem md_removeD (hu : X.A.units + 64 < cLine) : MtD X "list.remove" xRemD := by
  refine ⟨fun x xs H Q => ∃ l ys y ds d j, x = .ref l ∧ xs = [y] ∧ H l = some (.lst ys) ∧ DaAll X.K H ys ds ∧ Da X.K H y d ∧ PyData.plainAll ds = true ∧ d.plain = true ∧ PyData.hasDictAll ds = false ∧ d.hasDict = false ∧ d.depth ≤ 20 ∧ SeqAt.dataPlace ds d = some j ∧ Q .non (upd H l (.lst (ys.eraseIdx j))), ?_, fun {G m H v y vs ys F Q} rh rv rvs hx cv => ?_⟩
  · intro pins s σ H x xs v us Q I rx rxs ⟨l, ys, y, ds, d, j, ex, exs, hl, h1, h2, p1, p2, n1, n2, hd, hp, q⟩
    subst ex exs
    cases rx
    obtain ⟨u, rfl, ru⟩ := rxs.one
    obtain ⟨z, its, n, r, hlen, e⟩ := I.lstM hl
    obtain ⟨as, rs⟩ := DaAll.reads I n1 h1 r
    obtain ⟨bs, rx⟩ := Da.reads I n2 h2 ru
    refine SeqAt.remove_list_data (vs := its.toArray) ⟨_, e, rfl, n, rfl⟩ (by simpa using rs) rx p1 p2 (by omega) hp (by rw [List.size_toArray]; omega) ⟨.non, _, I.lset (its' := its.eraseIdx j) (t' := s.toks) hl e ?_ (r.eraseIdx j) (Nat.le_trans (List.length_eraseIdx_le _ _) z), rfl, q⟩
    show its.toArray.eraseIdxIfInBounds j = (its.eraseIdx j).toArray
    rw [List.eraseIdxIfInBounds_toArray]
  · obtain ⟨p, ds, d, j, rfl, rfl, hm, p1, p2, n1, n2, hd, hp, f⟩ := hx
    obtain ⟨w, rfl, rw⟩ := rvs1 rvs
    cases rv.loc
    obtain ⟨ws, e3, q⟩ := rh.lst hm
    have qd := RVs.das q
    refine ⟨p, ws, w, ds, d, j, rfl, rfl, e3, qd.mono rh.sub, rw.da.mono rh.sub, p1, p2, n1, n2, hd, hp, ?_⟩
    have e4 : RVs X.K G (ws.eraseIdx j) ((ds.eraseIdx j).map Y.d) := by
      have := q.eraseIdx j
      have e5 : (ds.map Y.d).eraseIdx j = (ds.eraseIdx j).map Y.d := by
        have go : ∀ (ds : List PyData) (j : Nat), (ds.map Y.d).eraseIdx j = (ds.eraseIdx j).map Y.d := by
          intro ds
          induction ds with
          | nil => intro j; rfl
          | cons d ds ih => intro j; cases j with
            | zero => rfl
            | succ j => exact congrArg (Y.d d :: ·) (ih j)
        exact go ds j
      rw [e5] at this
      exact this
    exact cv .non _ G _ _ (Ex.refl G) (rh.write hm (.lst e4)) (.d .non) f
/-- repr of what is data now -/
abbrev xReprM : XRC := fun ys m F => ∃ y d, ys = [y] ∧ DeepY m y d ∧ d.showable = true ∧ d.hasDict = false ∧ d.depth ≤ 40 ∧ cst d ≤ 10000000 ∧ F (.d (.str d.shown)) m
theorem cr_reprD (hg : X.A.guards = some []) (hu : X.A.units + 64 < cLine) : CallR X (.builtin "repr") (fun vs H Q => ∃ v d, vs = [v] ∧ Da X.K H v d ∧ d.showable = true ∧ d.hasDict = false ∧ d.depth ≤ 40 ∧ d.shown.length ≤ sizeLine ∧ Q (.str d.shown) H) := by
  intro pins s σ H vs us Q I r ⟨v, d, ev, hd, h1, h2, h3, h4, q⟩
  subst ev
  obtain ⟨u, rfl, ru⟩ := vals1 r
  obtain ⟨as, rd⟩ := Da.reads I h2 hd ru
  cases hd with
  | non => cases ru; exact PySem.P.repr_of_none ⟨.str _, H, I.tok _, ⟨_, rfl⟩, q⟩
  | bl b => cases ru; exact PySem.P.repr_of_bool ⟨.str _, H, I.tok _, ⟨_, rfl⟩, q⟩
  | int i =>
    obtain ⟨t, rfl⟩ := ru
    exact PySem.P.repr_of_int (by simpa [PyData.showable] using h1) ⟨.str _, H, I.tok _, ⟨_, rfl⟩, q⟩
  | str x =>
    obtain ⟨t, rfl⟩ := ru
    exact PySem.P.repr_of_str ⟨.str _, H, I.tok _, ⟨_, rfl⟩, q⟩ h4
  | lst _ _ =>
    cases ru
    exact repr_of_reads' rd h1 (PyData.noDict_hsm h2) hg (by omega) (fun _ _ z => z) (fun h' t tk k => ⟨.str _, H, I.kept k, ⟨_, rfl⟩, q⟩) h4
  | tup _ _ =>
    cases ru
    exact repr_of_reads' rd h1 (PyData.noDict_hsm h2) hg (by omega) (fun _ _ z => z) (fun h' t tk k => ⟨.str _, H, I.kept k, ⟨_, rfl⟩, q⟩) h4
  | dic _ _ _ _ => simp [PyData.hasDict] at h2
theorem cd_reprM (hg : X.A.guards = some []) (hu : X.A.units + 64 < cLine) : CallD X (.builtin "repr") xReprM := ⟨_, cr_reprD hg hu, fun {G m H vs ys F Q} rh rv hx cv => by
  obtain ⟨y, d, rfl, hy, g1, g2, g3, g4, f⟩ := hx
  obtain ⟨v, rfl, rw⟩ := rvs1 rv
  exact ⟨v, d, rfl, hy.da rh rw, g1, g2, g3, Nat.le_trans (cst_ok d g1 g2) (Nat.le_trans g4 (by decide)), cv.at rh (.d (.str _)) f⟩⟩
end
end Dl
/-! D19: what is written: tuples of texts, dicts with text keys; dicts as data; zip; max of ints; lists joined to a new one. -/
namespace Dl
open PySem PySem.Spec PyProof.Rows L2 Evl
section
variable {X : Cx} {W : WX} {K : PySem.W.Frag} {G H : Hp} {m : Mu} {a b e e2 : Expr} {pos : Pos} {t ta tb : XE}
/-! ### written tuples of texts -/
def strsOf : List Value → Option (List Str)
  | [] => some []
  | .str x _ :: r => (strsOf r).map (x :: ·)
  | _ :: _ => none
theorem strs_vals : ∀ {us : List Value} {xs : List Str}, strsOf us = some xs → Vals (xs.map V.str) us
  | [], xs, h => by cases h; exact .nil
  | .str x t :: r, xs, h => by
    cases e : strsOf r with
    | none => rw [strsOf, e] at h; cases h
    | some ys =>
      rw [strsOf, e] at h
      cases h
      exact .cons ⟨t, rfl⟩ (strs_vals e)
  | .none :: _, _, h => by cases h
  | .bool _ :: _, _, h => by cases h
  | .int _ _ :: _, _, h => by cases h
  | .float _ _ :: _, _, h => by cases h
  | .ref _ :: _, _, h => by cases h
  | .type _ :: _, _, h => by cases h
  | .builtin _ :: _, _, h => by cases h
  | .bytes _ _ :: _, _, h => by cases h
  | .ellipsis :: _, _, h => by cases h
  | .notImplemented :: _, _, h => by cases h
theorem das_strs : ∀ xs : List Str, DaAll K H (xs.map V.str) (xs.map PyData.str)
  | [] => .nil
  | x :: xs => .cons (.str x) (das_strs xs)
/-- at p: a written tuple of these texts -/
structure TupK (K : PySem.W.Frag) (p : Addr) (xs : List Str) : Prop where
  ex : ∃ od its n sl, K.lookup p = some ⟨.type "tuple", od, .seq its n, sl⟩ ∧ its.size ≤ sizeLine ∧ strsOf its.toList = some xs
theorem TupK.da {p : Addr} {xs : List Str} (h : TupK K p xs) : Da K G (.ref p) (.tuple (xs.map PyData.str)) := by
  obtain ⟨od, its, n, sl, h1, h2, h3⟩ := h.ex
  exact .tup (.inr ⟨_, its, n, h1, rfl, rfl, h2, strs_vals h3⟩) (das_strs xs)
theorem de_gt {x : Str} {xs : List Str} (hg : Gl X x) (hm : ∃ p, X.mg x = some (.ref p) ∧ TupK X.K p xs) (hd : (x == ("__debug__" : Str)) = false := by decide) : DE X W (.Name x pos) (xC (.d (.tuple (xs.map PyData.str)))) := by
  obtain ⟨p, hm, h⟩ := hm
  exact de_glob (v := V.ref p) (u := Value.ref p) hg hm rfl (fun G => .d h.da) hd
theorem de_gr {x : Str} {p : Addr} (hg : Gl X x) (hm : X.mg x = some (.ref p)) (hd : (x == ("__debug__" : Str)) = false := by decide) : DE X W (.Name x pos) (xC (.v (.ref p))) :=
  de_glob (v := V.ref p) (u := Value.ref p) hg hm rfl (fun G => .v _) hd
/-! ### a written dict with text keys -/
abbrev xInK (K : PySem.W.Frag) (d : Addr) (neg : Bool) : XR := fun y z m F => ∃ x r, y = .d (.str x) ∧ z = .v (.ref d) ∧ PySem.W.nsIn K d x = some r ∧ F (.d (.bool (if neg then !r.isSome else r.isSome))) m
theorem opd_inK {d : Addr} {es : Array DictEntry} {n : Nat} (D : KDict X.K X.w d es n) : OpD X (compareOp .In) (xInK X.K d false) := ⟨_, op_in_kd D, fun {G m H v w y z F Q} rh rv rw hx cv => by
  obtain ⟨x, r, rfl, rfl, e, f⟩ := hx
  cases rw
  exact ⟨x, r, rv.str, rfl, e, cv.at rh (.d (.bl _)) f⟩⟩
theorem opd_notinK {d : Addr} {es : Array DictEntry} {n : Nat} (D : KDict X.K X.w d es n) : OpD X (compareOp .NotIn) (xInK X.K d true) := ⟨_, op_notIn_kd D, fun {G m H v w y z F Q} rh rv rw hx cv => by
  obtain ⟨x, r, rfl, rfl, e, f⟩ := hx
  cases rw
  exact ⟨x, r, rv.str, rfl, e, cv.at rh (.d (.bl _)) f⟩⟩
abbrev xIxK (K : PySem.W.Frag) (w : World) : XR := fun y z m F => ∃ x p v q, y = .v (.ref p) ∧ z = .d (.str x) ∧ KDct K w p x v ∧ (∀ G, RV K G v q) ∧ F q m
theorem de_ixK (ha : DE X W a ta) (hb : DE X W b tb) (hs : PlainIx b) : DE X W (.Subscript a b pos) (xOp (xIxK X.K X.w) ta tb) := ⟨fun {G r m σ H F P Q} rs rh hx cv cx =>
  se_of (pe_ix ix_kdict se_pe se_pe hs) (ha.run rs rh hx (fun v y G1 m1 H1 e1 rh1 rv1 q1 =>
    hb.run (rs.mono e1) rh1 q1 (fun w z G2 m2 H2 e2 rh2 rv2 q2 => by
      obtain ⟨x, p, v0, q, rfl, rfl, h1, h2, f⟩ := q2
      cases rv1
      exact ⟨p, x, v0, rfl, rv2.str, h1, cv v0 q G2 m2 H2 (e1.trans e2) rh2 (h2 G2) f⟩) (cx.mono e1)) cx)⟩
/-! ### dicts as data -/
def dGet (es : List (PyData × PyData)) (x : Str) : Option PyData := (es.find? fun p => match p.1 with | .str z => decide (z = x) | _ => false).map (·.2)
theorem dic_get {x : Str} : ∀ {kvs : List (Key × V)} {ks ds : List PyData}, DaAll K H (kvs.map fun p => kV p.1) ks → DaAll K H (kvs.map fun p => p.2) ds → ∀ {d : PyData}, dGet (ks.zip ds) x = some d → ∃ v, valV kvs (Sum.inr x) = some v ∧ Da K H v d
  | [], _, _, h1, h2, d, e => by cases h1; cases e
  | (k, v) :: kvs, _, _, h1, h2, d, e => by
    cases h1 with
    | cons h1 t1 =>
      cases h2 with
      | cons h2 t2 =>
        cases k with
        | inl i =>
          cases h1
          obtain ⟨u, g1, g2⟩ := dic_get t1 t2 (d := d) (x := x) (by simpa [dGet] using e)
          refine ⟨u, ?_, g2⟩
          unfold valV at g1 ⊢
          rw [List.find?_cons_of_neg (by simp)]
          exact g1
        | inr z =>
          cases h1
          by_cases hz : z = x
          · subst hz
            rename_i d0 _
            have : d0 = d := by simpa [dGet] using e
            subst this
            exact ⟨v, valV_pos rfl, h2⟩
          · obtain ⟨u, g1, g2⟩ := dic_get t1 t2 (d := d) (x := x) (by simpa [dGet, hz] using e)
            refine ⟨u, ?_, g2⟩
            unfold valV at g1 ⊢
            rw [List.find?_cons_of_neg (by simpa using hz)]
            exact g1
abbrev xIxD : XR := fun y z m F => ∃ es x d, y = .d (.dict es) ∧ z = .d (.str x) ∧ dGet es x = some d ∧ F (.d d) m
theorem de_ixD (hu : X.A.units + 1 < cLine) (ha : DE X W a ta) (hb : DE X W b tb) (hs : PlainIx b) : DE X W (.Subscript a b pos) (xOp xIxD ta tb) := ⟨fun {G r m σ H F P Q} rs rh hx cv cx =>
  se_of (pe_dget hu se_pe se_pe hs) (ha.run rs rh hx (fun v y G1 m1 H1 e1 rh1 rv1 q1 =>
    hb.run (rs.mono e1) rh1 q1 (fun w z G2 m2 H2 e2 rh2 rv2 q2 => by
      obtain ⟨es, x, d, rfl, rfl, h1, f⟩ := q2
      have rv := rv1.mono e2
      cases rv with
      | d q =>
        cases q with
        | dic r k1 k2 eq =>
          subst eq
          obtain ⟨u, g1, g2⟩ := dic_get k1 k2 h1
          refine ⟨_, u, rfl, .inl ⟨_, Sum.inr x, rd_sub rh2 r, rv2.str, g1.symm⟩, ?_⟩
          exact cv u (.d d) G2 m2 H2 (e1.trans e2) rh2 (.d g2) f) (cx.mono e1)) cx)⟩
/-! ### {..} with written texts as keys, as data -/
inductive DPr (X : Cx) (W : WX) : List (Option Expr) → List Expr → List Str → XA → Prop
  | nil : DPr X W [] [] [] xNil
  | cons {k : Str} {j : Nat} {p : Pos} {v : Expr} {ks : List (Option Expr)} {vs : List Expr} {xs : List Str} {tv : XE} {ta : XA} : DE X W v tv → DPr X W ks vs xs ta → DPr X W (some (.Constant (.str k) j p) :: ks) (v :: vs) (k :: xs) (xCons tv ta)
theorem DPr.lens {ks : List (Option Expr)} {vs : List Expr} {xs : List Str} {ta : XA} (h : DPr X W ks vs xs ta) : ks.all (·.isSome) = true ∧ ks.length = vs.length ∧ ks.length = xs.length := by
  induction h with
  | nil => exact ⟨rfl, rfl, rfl⟩
  | cons _ _ ih => exact ⟨by simpa using ih.1, by simp [ih.2.1], by simp [ih.2.2]⟩
theorem dpr_ok {ks : List (Option Expr)} {vs : List Expr} {xs : List Str} {ta : XA} (h : DPr X W ks vs xs ta) : ∃ trs, PPs X pos ks vs trs ∧ ∀ {G : Hp} {r : Ro} {m : Mu} {σ : L2.St} {H : Hp} {F : List Y → Mu → Prop} {P : XP} {Q : List (V × V) → Hp → Prop}, Rs X.K G σ r → Rh X.K G m H → ta r m F P →
    (∀ (ws : List V) ys G' m' H', Ex G G' → Rh X.K G' m' H' → RVs X.K G' ws ys → F ys m' → ws.length = xs.length → Q ((xs.map V.str).zip ws) H') → CvX X.K G P (WEx W σ) → tPairs trs σ H Q := by
  induction h with
  | nil => exact ⟨[], pps_nil, fun rs rh hx cv cx => cv [] [] _ _ _ (Ex.refl _) rh .nil hx rfl⟩
  | @cons k j p v ks vs xs tv ta hv hr ih =>
    obtain ⟨trs, h1, h2⟩ := ih
    refine ⟨_ :: trs, pps_cons pe_str se_pe h1, fun {G r m σ H F P Q} rs rh hx cv cx => ?_⟩
    refine hv.run rs rh hx (fun u y G1 m1 H1 e1 rh1 rv1 q1 => ?_) cx
    refine h2 (rs.mono e1) rh1 q1 (fun ws ys G2 m2 H2 e2 rh2 rv2 q2 hl => ?_) (cx.mono e1)
    exact cv (u :: ws) (y :: ys) G2 m2 H2 (e1.trans e2) rh2 (.cons (rv1.mono e2) rv2) q2 (by simp [hl])
abbrev xDict (xs : List Str) (ta : XA) : XE := fun r m F P => ∀ p, m p = none → ta r (mu m p (.dic [])) (fun ys m2 => ∃ ds, ys = ds.map Y.d ∧ m2 p = some (.dic []) ∧ F (.d (.dict ((xs.map PyData.str).zip ds))) (fun b => if b = p then none else m2 b)) P
theorem merge_new : ∀ (kvs acc : List (Key × V)), (kvs.map (·.1)).Nodup → (∀ k ∈ kvs.map (·.1), k ∉ acc.map (·.1)) → mergeK acc kvs = acc ++ kvs
  | [], acc, _, _ => by simp [mergeK]
  | (k, v) :: kvs, acc, hn, hd => by
    have hn' := List.nodup_cons.mp hn
    have e : putK acc k v = acc ++ [(k, v)] := by
      unfold putK
      rw [if_neg]
      intro h
      obtain ⟨x, hx, hk⟩ := List.any_eq_true.mp h
      exact hd k (by simp) (List.mem_map.mpr ⟨x, hx, by simpa using hk⟩)
    show mergeK (putK acc k v) kvs = _
    rw [e, merge_new kvs (acc ++ [(k, v)]) hn'.2 (fun k' hk' hm => ?_), List.append_assoc]
    · rfl
    · rw [List.map_append] at hm
      rcases List.mem_append.mp hm with hm | hm
      · exact hd k' (by simp [hk']) hm
      · have : k' = k := by simpa using hm
        subst this
        exact hn'.1 hk'
theorem Rh.frzD {kvs : List (Key × V)} {u0 : MO} {ks ds : List PyData} (rh : Rh K G m H) (h : m p = some u0) (hu0 : ∀ T, u0 ≠ .tab T) (h1 : ∀ G', Ex G G' → DaAll K G' (kvs.map fun q => kV q.1) ks) (h2 : ∀ G', Ex G G' → DaAll K G' (kvs.map fun q => q.2) ds) :
    ∃ G', Ex G G' ∧ Rh K G' (fun b => if b = p then none else m b) (upd H p (.dK kvs)) ∧ Da K G' (.ref p) (.dict (ks.zip ds)) := by
  have f := rh.off p _ h
  have e1 : Ex G (upd G p (.dK kvs)) := Ex.new f
  have np : ∀ a, (∃ T, m a = some (.tab T)) → a ≠ p := fun a ⟨T, z⟩ e => by rw [e, h] at z; cases z; exact hu0 T rfl
  refine ⟨upd G p (.dK kvs), e1, ⟨fun a u e2 => ?_, fun a u e2 => ?_, fun a u e2 => ?_, rh.tb.keep e1 (fun a T z => by
    have z' : (if a = p then none else m a) = some (.tab T) := z
    by_cases q : a = p
    · rw [if_pos q] at z'; cases z'
    · rwa [if_neg q] at z') (fun a T z => by show (if a = p then none else m a) = _; rw [if_neg (np a ⟨T, z⟩)]; exact z) (fun a o e z => by rw [upd_ne (np a z)]; exact e), nt_upd rh.nt (fun _ z => by cases z)⟩, .dic (.inl upd_same) (h1 _ e1) (h2 _ e1) rfl⟩
  · by_cases z : a = p
    · subst z; rw [upd_same] at e2 ⊢; exact e2
    · rw [upd_ne z] at e2 ⊢; exact rh.sub a u e2
  · have e2' : (if a = p then none else m a) = some u := e2
    by_cases z : a = p
    · rw [if_pos z] at e2'; cases e2'
    · rw [if_neg z] at e2'; rw [upd_ne z]; exact rh.off a u e2'
  · have e2' : (if a = p then none else m a) = some u := e2
    by_cases z : a = p
    · rw [if_pos z] at e2'; cases e2'
    · rw [if_neg z] at e2'
      obtain ⟨x, e3, e4⟩ := rh.mem a u e2'
      exact ⟨x, by rw [upd_ne z]; exact e3, e4.mono e1⟩
theorem de_dict {ks : List (Option Expr)} {vs : List Expr} {xs : List Str} {ta : XA} (h : DPr X W ks vs xs ta) (hn : xs.Nodup) (h0 : ks ≠ []) (h15 : ks.length ≤ 15) : DE X W (.Dict ks vs pos) (xDict xs ta) := by
  obtain ⟨l1, l2, l3⟩ := h.lens
  obtain ⟨trs, g1, g2⟩ := dpr_ok (pos := pos) h
  refine ⟨fun {G r m σ H F P Q} rs rh hx cv cx => se_of (pe_disp g1 l1 l2 h0 h15) fun p hp => ?_⟩
  refine g2 rs (rh.new (u := .dic []) hp (.dic .nil)) (hx p (rh.free hp).2) (fun ws ys G2 m2 H2 e2 rh2 rv2 q2 hl => ?_) cx
  obtain ⟨ds, rfl, hm2, f⟩ := q2
  obtain ⟨fs, hH2, r2⟩ := rh2.dic hm2
  have hfs : fs = [] := by cases r2; rfl
  subst hfs
  refine ⟨hH2, (xs.map (Sum.inr (α := Int))).zip ws, ?_, ?_, ?_⟩
  · rw [show (xs.map V.str) = (xs.map (Sum.inr (α := Int))).map kV by rw [List.map_map]; rfl, List.zip_map_left]; rfl
  · rw [List.length_zip, List.length_map]; omega
  · have hz1 : ((xs.map (Sum.inr (α := Int))).zip ws).map (·.1) = xs.map (Sum.inr (α := Int)) := by rw [List.map_fst_zip]; rw [List.length_map]; omega
    have hz2 : ((xs.map (Sum.inr (α := Int))).zip ws).map (·.2) = ws := by rw [List.map_snd_zip]; rw [List.length_map]; omega
    rw [merge_new _ [] (by rw [hz1]; exact List.Pairwise.map _ (fun _ _ h e => h (Sum.inr.inj e)) hn) (fun _ _ h => by simp at h), List.nil_append]
    obtain ⟨G3, e3, rh3, rd⟩ := rh2.frzD (kvs := (xs.map (Sum.inr (α := Int))).zip ws) (ks := xs.map PyData.str) (ds := ds) hm2 (fun _ z => by cases z) (fun G' e => by
      rw [show (fun q : Key × V => kV q.1) = kV ∘ (fun q : Key × V => q.1) from rfl, ← List.map_map, hz1, List.map_map]
      exact das_strs xs) (fun G' e => by rw [hz2]; exact (RVs.das rv2).mono e)
    exact cv _ _ G3 _ _ (e2.trans e3) rh3 (.d rd) f
/-! ### zip of two tuples -/
abbrev wkZip (xs ys : List PyData) : Wk := ⟨min xs.length ys.length, fun i m F => ∃ x y, xs[i]? = some x ∧ ys[i]? = some y ∧ F (.d (.tuple [x, y])) m, fun _ => True⟩
abbrev xiZip (ta : XA) : XI := fun r m F P => ta r m (fun zs m1 => ∃ xs ys, zs = [.d (.tuple xs), .d (.tuple ys)] ∧ F (wkZip xs ys) m1) P
theorem di_zip {p tpos : Pos} {elts : List Expr} {kk : Nat} {ta : XA} (hg : Gl X "zip") (hm : X.mg "zip" = none) (ha : DA X W [e, e2] ta) (hs : starEach [e, e2] X.env = (false, eval e X.env) :: starEach [e2] X.env := by rfl) (hpl : (backTo pos (starEach [e2] X.env)).any (·.1) = false := by rfl) :
    DI X W (.Tuple elts kk tpos) (.Call (.Name "zip" p) [e, e2] [] pos) (xiZip ta) := ⟨fun {G r m σ H F P R} rs rh hx cr cx =>
  si_of (RZ.pi_zipA hg hm sa_pa hs hpl) (ha.run rs rh hx (fun vs zs G1 m1 H1 e1 rh1 rv1 ⟨xs, ys, q1, q3⟩ => by
    subst q1
    obtain ⟨v, w, rfl, r1, r2⟩ := rvs2 rv1
    obtain ⟨a, us, rfl, s1, d1⟩ := r1.tup
    obtain ⟨b, ws, rfl, s2, d2⟩ := r2.tup
    have k1 : ∀ {G2 : Hp} {m : Mu} {H : Hp}, Ex G1 G2 → Rh X.K G2 m H → SqT X.K H a us := fun e rh => ex_t (e.trans rh.sub) s1
    have k2 : ∀ {G2 : Hp} {m : Mu} {H : Hp}, Ex G1 G2 → Rh X.K G2 m H → SqT X.K H b ws := fun e rh => ex_t (e.trans rh.sub) s2
    refine ⟨a, b, us, ws, rfl, .inr ⟨k1 (Ex.refl _) rh1, k2 (Ex.refl _) rh1, cr _ _ G1 m1 H1 e1 rh1 ⟨fun i m G2 H e rh s hi => ?_, fun i m G2 H x H' e rh s hi q F Q f cv => ?_, fun m G2 H e rh s => ?_⟩ q3⟩⟩
    · have hi' : i < min xs.length ys.length := hi
      have h1 := d1.length
      have h2 := d2.length
      exact ⟨us, ws, us[i], ws[i], k1 e rh, k2 e rh, by simp, by simp⟩
    · obtain ⟨T, x0, y0, rfl, hT, rfl, q2, q3⟩ := q
      obtain ⟨x, y, hx, hy, f⟩ := f
      obtain ⟨u, hu, ru⟩ := DaAll.get (d1.mono e) hx
      obtain ⟨v, hv, rv⟩ := DaAll.get (d2.mono e) hy
      have z1 := q2 _ (k1 e rh)
      have z2 := q3 _ (k2 e rh)
      rw [hu] at z1; cases z1
      rw [hv] at z2; cases z2
      exact mkT_ok rh (.cons (.d ru) (.cons (.d rv) .nil)) hT f cv
    · refine ⟨us, ws, k1 e rh, k2 e rh, ?_⟩
      have h1 := d1.length
      have h2 := d2.length
      show us.length ≤ min xs.length ys.length ∨ ws.length ≤ min xs.length ys.length
      omega) cx)⟩
/-! ### max of ints; lists joined to a new one that is to change -/
abbrev xMaxI : XRC := fun ys m F => ∃ (y : Y) (ns : List Int), ys = [y] ∧ LsY m y ((ns.map PyData.int).map Y.d) ∧ 0 < ns.length ∧ ∀ k, k ∈ ns → (∀ j ∈ ns, j ≤ k) → F (.d (.int k)) m
theorem cd_maxI (hc : X.calm = true) : CallD X (.builtin "max") xMaxI := ⟨_, cr_max hc, fun {G m H vs ys F Q} rh rv hx cv => by
  obtain ⟨y, ns, rfl, hs, h0, f⟩ := hx
  obtain ⟨v, rfl, rw⟩ := rvs1 rv
  obtain ⟨p, ws, rfl, s1, q⟩ := lsY_ok rh rw hs
  exact ⟨p, ns, rfl, by rw [← ints_rvs (RVs.das q)]; exact .inl s1, h0, fun k h1 h2 => cv.at rh (.d (.int _)) (f k h1 h2)⟩⟩
abbrev xAddM : XR := fun y z m F => ∃ ys zs, LsY m y ys ∧ LsY m z zs ∧ ys.length + zs.length ≤ 10000 ∧ ∀ p, m p = none → F (.l p) (mu m p (.lst (ys ++ zs)))
theorem opd_addM : OpD X (binaryOp .Add) xAddM := by
  refine ⟨_, opr_catD, fun {G m H v w y z F Q} rh rv rw hx cv => ?_⟩
  obtain ⟨ys, zs, h1, h2, hl, f⟩ := hx
  obtain ⟨p, us, rfl, s1, q1⟩ := lsY_ok rh rv h1
  obtain ⟨q, ws, rfl, s2, q2⟩ := lsY_ok rh rw h2
  refine ⟨p, q, us, ws, rfl, rfl, s1, s2, by rw [q1.length, q2.length]; exact Nat.le_trans hl szl, fun b hb => ?_⟩
  exact lstM_ok rh (q1.app q2) hb f cv
end
end Dl
/-! D20: small lemmas for readings; constants of a class; zip in a comprehension. -/
namespace Dl
open PySem PySem.Spec PyProof.Rows L2 Evl
section
variable {X : Cx} {W : WX} {o : Expr} {to : XE} {pos : Pos}
theorem kixK {e o : Expr} {ta tb : XE} (K : PySem.W.Frag) (w : World) (ha : DE X W e ta) (hb : DE X W o tb) (hs : PlainIx o) (hK : X.K = K := by rfl) (hw : X.w = w := by rfl) : DE X W (.Subscript e o pos) (xOp (xIxK K w) ta tb) := by
  subst hK hw; exact de_ixK ha hb hs
theorem kinK {K : PySem.W.Frag} {w : World} {d : Addr} {es : Array DictEntry} {n : Nat} (D : KDict K w d es n) (hK : X.K = K := by rfl) (hw : X.w = w := by rfl) : OpD X (compareOp .In) (xInK K d false) := by
  subst hK hw; exact opd_inK D
theorem knotinK {K : PySem.W.Frag} {w : World} {d : Addr} {es : Array DictEntry} {n : Nat} (D : KDict K w d es n) (hK : X.K = K := by rfl) (hw : X.w = w := by rfl) : OpD X (compareOp .NotIn) (xInK K d true) := by
  subst hK hw; exact opd_notinK D
/-- C.f, a constant of a class -/
abbrev xCVal (C : Addr) (y : Y) (to : XE) : XE := fun r m F P => to r m (fun z m1 => z = .v (.ref C) ∧ F y m1) P
theorem de_cval {C : Addr} {mc : Value} {f : Str} {v : V} {u : Value} {y : Y} (ha : DE X W o to) (r : ClX.CRead X.K C mc) (c : ClX.CVal X.K C mc f v u) (rv : ∀ G, RV X.K G v y) (hb : attributeBase o f X.env (eval o X.env) = eval o X.env := by rfl) : DE X W (.Attribute o f pos) (xCVal C y to) := ⟨fun {G rr m σ H F P Q} rs rh hx cv cx =>
  se_of (ClX.pe_cval se_pe (hb := hb)) (ha.run rs rh hx (fun w z G1 m1 H1 e1 rh1 rv1 q => by
    obtain ⟨rfl, f⟩ := q
    cases rv1
    exact ⟨C, mc, v, u, rfl, r, c, cv v y G1 m1 H1 e1 rh1 (rv G1) f⟩) cx)⟩
end
section
variable {r : Ro} {m : Mu} {F : Y → Mu → Prop} {g : XG} {tt : XT} {te : XE} {vs : List Nat}
theorem lc_zip {fin : Addr → List Y → Mu → (Y → Mu → Prop) → Prop} {xs ys : List PyData} (h : PyData → PyData → Option Y) (hn : min xs.length ys.length ≤ 10000)
    (ht : ∀ x y M, x ∈ xs → y ∈ ys → Mle m M → ∀ (C : Y → Mu → Prop) (N : Mu → Prop), (∀ z M', h x y = some z → Mle M M' → C z M') → (∀ M', h x y = none → Mle M M' → N M') → g (.d (.tuple [x, y])) (wipeR r vs) M (fun r2 M2 => tt r2 M2 (fun b M3 => if b = true then te r2 M3 C P0 else N M3) P0))
    (hf : ∀ D M, m D = none → Mle (mu m D (.lst ((xs.zip ys).filterMap fun p => h p.1 p.2))) M → fin D ((xs.zip ys).filterMap fun p => h p.1 p.2) M F) : LcZ fin (wkZip xs ys) g tt te vs r m F := by
  have hl : (xs.zip ys).length = min xs.length ys.length := List.length_zip
  refine lc_go (k := wkZip xs ys) (fun i => (xs.zip ys)[i]?.bind fun p => h p.1 p.2) hn (fun _ _ => trivial) (fun i M hi hM C N hC hN => ?_) (fun D M hD hM => ?_)
  · have hi' : i < min xs.length ys.length := hi
    have e : (xs.zip ys)[i]? = some (xs[i], ys[i]) := by rw [List.getElem?_eq_getElem (by omega), List.getElem_zip]
    rw [e] at hC hN
    exact ⟨xs[i], ys[i], by simp, by simp, ht _ _ M (List.getElem_mem _) (List.getElem_mem _) hM C N hC hN⟩
  · have ef := fm_all (fun p : PyData × PyData => h p.1 p.2) (xs.zip ys)
    rw [hl] at ef
    have hM' : Mle (mu m D (.lst ((List.range (min xs.length ys.length)).filterMap fun i => (xs.zip ys)[i]?.bind fun p => h p.1 p.2))) M := hM
    show fin D ((List.range (min xs.length ys.length)).filterMap _) M F
    rw [ef] at hM' ⊢
    exact hf D M hD hM'
end
def okD (d : PyData) : Prop := d.showable = true ∧ d.hasDict = false ∧ d.depth ≤ 40 ∧ cst d ≤ 10000000
theorem tup3 {x y z : PyData} {M : Mu} {r : Ro} {g : XGs} {F : Ro → Mu → Prop} (h : g [.d x, .d y, .d z] r M F) : xgTup 3 g (.d (.tuple [x, y, z])) r M F := by
  refine ⟨[.d x, .d y, .d z], rfl, ?_, ?_, ?_, rfl, h⟩
  all_goals intro _ e; cases e
theorem tup2 {y z : Y} {M : Mu} {r : Ro} {x : Y} {g : XGs} {F : Ro → Mu → Prop} (hx : (∃ a b, y = .d a ∧ z = .d b ∧ x = .d (.tuple [a, b])) ∨ ∃ p, x = .l p ∧ M p = some (.tup [y, z])) (h : g [y, z] r M F) : xgTup 2 g x r M F := by
  rcases hx with ⟨a, b, rfl, rfl, rfl⟩ | ⟨p, rfl, e⟩
  · refine ⟨[.d a, .d b], rfl, ?_, ?_, ?_, rfl, h⟩
    all_goals intro _ e; cases e
  · refine ⟨[y, z], .inr e, ?_, ?_, ?_, rfl, h⟩
    · intro _ e; cases e
    · intro q e'; cases e'; exact e
    · intro _ e; cases e
theorem eq_int {o i : Int} {m : Mu} {F : Y → Mu → Prop} (h : F (.d (.bool (decide (o = i)))) m) : xEq (.d (.int o)) (.d (.int i)) m F := h
theorem at_last {α : Type} {xs : List α} {x : α} : atI (xs ++ [x]) (-1) = some x := by
  unfold atI ixN
  rw [if_neg (by decide), List.length_append, List.length_singleton, if_pos (by omega), Option.bind_some]
  rw [show (-1 + ((xs.length + 1 : Nat) : Int)).toNat = xs.length by omega, List.getElem?_append_right (Nat.le_refl _), Nat.sub_self]
  rfl
theorem at_nat {α : Type} {xs : List α} {n : Nat} {x : α} (h : xs[n]? = some x) : atI xs (n : Int) = some x := by
  obtain ⟨hl, -⟩ := List.getElem?_eq_some_iff.mp h
  unfold atI ixN
  rw [if_pos (Int.natCast_nonneg n), if_pos (by omega), Option.bind_some, Int.toNat_natCast, h]
theorem at_zero {α : Type} {x : α} {xs : List α} : atI (x :: xs) 0 = some x := at_nat (n := 0) rfl
theorem ix_nat {k n : Nat} (h : n < k) : ixN k (n : Int) = some n := by
  unfold ixN
  rw [if_pos (Int.natCast_nonneg n), if_pos (by omega), Int.toNat_natCast]
theorem sq_nat {k n : Nat} (h : n < k) : seqIndex? (n : Int) k = some n := by
  unfold seqIndex?
  simp only []
  rw [if_neg (by omega : ¬ (n : Int) < 0), if_pos (by simp; omega), Int.toNat_natCast]
theorem str_app (a b : Str) : (a ++ b).length = a.length + b.length := Array.size_append
theorem fmt_i {i : Int} (h : i.natAbs.log2 < 1920) : fmtY (.d (.int i)) = some (Str.ofString (toString i)) := if_pos h
theorem fmt_s {x : Str} (h : x.length ≤ 2000) : fmtY (.d (.str x)) = some x := if_pos h
theorem log_small {i : Int} (h : i.natAbs < 2 ^ 200) : i.natAbs.log2 < 1920 := by
  by_cases z : i.natAbs = 0
  · rw [z]; decide
  · exact Nat.lt_trans ((Nat.log2_lt z).mpr h) (by decide)
theorem iteD {p : Prop} [Decidable p] {A B : Prop} (h1 : p → A) (h2 : ¬p → B) : if decide p = true then A else B := by
  by_cases h : p
  · rw [if_pos (by simpa using h)]; exact h1 h
  · rw [if_neg (by simpa using h)]; exact h2 h
theorem iteE {k : Bool} {A B : Prop} (h : k = false) (b : B) : if k = true then A else B := by rw [if_neg (by simp [h])]; exact b
theorem iteI {k : Bool} {A B : Prop} (h : k = true) (a : A) : if k = true then A else B := by rw [if_pos h]; exact a
theorem map_erase {α β : Type} (f : α → β) : ∀ (xs : List α) (n : Nat), (xs.map f).eraseIdx n = (xs.eraseIdx n).map f
  | [], _ => rfl
  | _ :: _, 0 => rfl
  | x :: xs, n + 1 => congrArg (f x :: ·) (map_erase f xs n)
theorem fm_congr {α β : Type} {f g : α → Option β} : ∀ {xs : List α}, (∀ x ∈ xs, f x = g x) → xs.filterMap f = xs.filterMap g
  | [], _ => rfl
  | x :: xs, h => by rw [List.filterMap_cons, List.filterMap_cons, h x (by simp), fm_congr fun y hy => h y (by simp [hy])]
def flat1 (d : PyData) : Prop := d.canLay0 = true ∧ d.depth ≤ 3
theorem flat_list {n : Nat} {ds : List PyData} (h : ∀ d ∈ ds, d.canLay0 = true ∧ d.depth ≤ n) : (PyData.list ds).canLay0 = true ∧ (PyData.list ds).depth ≤ n + 1 := by
  have a : ∀ ds : List PyData, (∀ d ∈ ds, d.canLay0 = true ∧ d.depth ≤ n) → PyData.canLayAll0 ds = true ∧ PyData.depthAll ds ≤ n := by
    intro ds
    induction ds with
    | nil => intro _; simp [PyData.canLayAll0, PyData.depthAll]
    | cons d ds ih =>
      intro h
      obtain ⟨h1, h2⟩ := ih fun x hx => h x (by simp [hx])
      obtain ⟨h3, h4⟩ := h d (by simp)
      simp [PyData.canLayAll0, PyData.depthAll, h1, h3]
      omega
  obtain ⟨h1, h2⟩ := a ds h
  simp [PyData.canLay0, PyData.depth, h1]
  omega
theorem flat_shaped {d : PyData} (h : d.canLay0 = true ∧ d.depth ≤ 64) : SeqAt.shaped d = true := by unfold SeqAt.shaped; simp [h.1, h.2]
theorem flat_int {i : Int} : (PyData.int i).canLay0 = true ∧ (PyData.int i).depth ≤ 1 := by simp [PyData.canLay0, PyData.depth]
theorem flat_bool {b : Bool} : (PyData.bool b).canLay0 = true ∧ (PyData.bool b).depth ≤ 1 := by simp [PyData.canLay0, PyData.depth]
theorem flat_up {d : PyData} {n k : Nat} (h : d.canLay0 = true ∧ d.depth ≤ n) (l : n ≤ k) : d.canLay0 = true ∧ d.depth ≤ k := ⟨h.1, Nat.le_trans h.2 l⟩
theorem eqv_list (ds : List PyData) : PyData.eqv (.list ds) (.list []) = ds.isEmpty := by
  cases ds with
  | nil => exact eqv_nil
  | cons d ds => exact eqv_cons
theorem eq_nilD {ds : List PyData} {n : Nat} {m : Mu} {F : Y → Mu → Prop} (hd : ∀ d ∈ ds, d.canLay0 = true ∧ d.depth ≤ n) (hn : n ≤ 60) (h : F (.d (.bool ds.isEmpty)) m) : xEq (.d (.list ds)) (.d (.list [])) m F :=
  ⟨flat_shaped (flat_up (flat_list hd) (by omega)), flat_shaped (flat_up (flat_list (n := 0) fun _ h => by simp at h) (by omega)), by rw [eqv_list]; exact h⟩
theorem tru_b {m : Mu} (b : Bool) : TruY m (.d (.bool b)) b := rfl
theorem len1 {α : Type} (x : α) : [x].length ≤ 10000 := Nat.le_of_ble_eq_true rfl
theorem len2 {α : Type} (x y : α) : [x, y].length ≤ 10000 := Nat.le_of_ble_eq_true rfl
theorem len3 {α : Type} (x y z : α) : [x, y, z].length ≤ 10000 := Nat.le_of_ble_eq_true rfl
theorem len4 {α : Type} (x y z t : α) : [x, y, z, t].length ≤ 10000 := Nat.le_of_ble_eq_true rfl
theorem flat_ints (vs : List Int) : (vs.map PyData.int).all flatD = true := by
  induction vs with
  | nil => rfl
  | cons v vs ih => rw [List.map_cons, List.all_cons, ih]; rfl
theorem look_here {α : Type} {x y : Str} {v : α} {r : List (Str × α)} (h : (x == y) = true) : ((y, v) :: r).lookup x = some v := by rw [List.lookup_cons, h]
theorem look_past {α : Type} {x y : Str} {v : α} {r : List (Str × α)} (h : (x == y) = false) : ((y, v) :: r).lookup x = r.lookup x := by rw [List.lookup_cons, h]
def Fr (S : Addr → Prop) (m m' : Mu) : Prop := ∀ x o, ¬ S x → m x = some o → m' x = some o
theorem Fr.of {S : Addr → Prop} {m m' : Mu} (h : Mle m m') : Fr S m m' := fun x o _ e => h x o e
theorem Fr.then {S : Addr → Prop} {m m' m2 : Mu} (h : Fr S m m') (h2 : Mle m' m2) : Fr S m m2 := fun x o n e => h2 x o (h x o n e)
theorem zip_lt {α : Type} : ∀ (xs : List α) (n : Nat), (xs.zipIdx n).Pairwise fun a b => a.2 < b.2
  | [], _ => .nil
  | x :: xs, n => by
    rw [List.zipIdx_cons]
    refine .cons (fun p hp => ?_) (zip_lt xs (n + 1))
    obtain ⟨y, j⟩ := p
    have := (List.mem_zipIdx hp).1
    show n < j
    omega
def PenL (l : List Y) : Prop := ∃ x y z : Int, 0 ≤ x ∧ 0 ≤ y ∧ y < 4294967296 ∧ l = [.d (.int x), .d (.int y), .d (.int z)]
section
variable {K : PySem.W.Frag}
def isI (d : PyData) : Bool := match d with
  | .int _ => true
  | .bool _ => true
  | _ => false
def isBl (d : PyData) : Bool := match d with
  | .bool _ => true
  | _ => false
theorem isi_int (d : PyData) : PySem.W.kitOne K (.type (tyD d)) (.type "int") = some (isI d) := by
  have h1 : kitB "NoneType" "int" = some false := by decide +kernel
  have h2 : kitB "bool" "int" = some true := by decide +kernel
  have h3 : kitB "int" "int" = some true := by decide +kernel
  have h4 : kitB "str" "int" = some false := by decide +kernel
  have h5 : kitB "list" "int" = some false := by decide +kernel
  have h6 : kitB "tuple" "int" = some false := by decide +kernel
  have h7 : kitB "dict" "int" = some false := by decide +kernel
  cases d <;> first | exact kit_ty h1 | exact kit_ty h2 | exact kit_ty h3 | exact kit_ty h4 | exact kit_ty h5 | exact kit_ty h6 | exact kit_ty h7
theorem isi_bool (d : PyData) : PySem.W.kitOne K (.type (tyD d)) (.type "bool") = some (isBl d) := by
  have h1 : kitB "NoneType" "bool" = some false := by decide +kernel
  have h2 : kitB "bool" "bool" = some true := by decide +kernel
  have h3 : kitB "int" "bool" = some false := by decide +kernel
  have h4 : kitB "str" "bool" = some false := by decide +kernel
  have h5 : kitB "list" "bool" = some false := by decide +kernel
  have h6 : kitB "tuple" "bool" = some false := by decide +kernel
  have h7 : kitB "dict" "bool" = some false := by decide +kernel
  cases d <;> first | exact kit_ty h1 | exact kit_ty h2 | exact kit_ty h3 | exact kit_ty h4 | exact kit_ty h5 | exact kit_ty h6 | exact kit_ty h7
end
theorem ok_small {i : Int} (h : -1000 ≤ i ∧ i ≤ 1000) : (PyData.int i).showable = true := by
  have : i.natAbs.log2 < 1920 := log_small (Nat.lt_of_le_of_lt (show i.natAbs ≤ 1000 by omega) (by decide +kernel))
  simpa [PyData.showable] using this
theorem ok_list {ds : List PyData} {n c : Nat} (h : ∀ d ∈ ds, d.showable = true ∧ d.hasDict = false ∧ d.depth ≤ n ∧ cst d ≤ c) : PyData.showableAll ds = true ∧ PyData.hasDictAll ds = false ∧ PyData.depthAll ds ≤ n ∧ cstA ds ≤ ds.length * (c + 2) := by
  induction ds with
  | nil => simp [PyData.showableAll, PyData.hasDictAll, PyData.depthAll, cstA]
  | cons d ds ih =>
    obtain ⟨h1, h2, h3, h4⟩ := ih fun x hx => h x (by simp [hx])
    obtain ⟨g1, g2, g3, g4⟩ := h d (by simp)
    refine ⟨by simp [PyData.showableAll, h1, g1], by simp [PyData.hasDictAll, h2, g2], by simp [PyData.depthAll]; omega, ?_⟩
    simp only [cstA, List.length_cons, Nat.add_mul, Nat.one_mul]
    omega
abbrev ok4 (d : PyData) (n c : Nat) : Prop := d.showable = true ∧ d.hasDict = false ∧ d.depth ≤ n ∧ cst d ≤ c
theorem ok4_tup {ds : List PyData} {n c : Nat} (h : ∀ d ∈ ds, ok4 d n c) : ok4 (.tuple ds) (n + 1) (3 + ds.length * (c + 2)) := by
  obtain ⟨h1, h2, h3, h4⟩ := ok_list h
  exact ⟨by simpa [PyData.showable] using h1, by simpa [PyData.hasDict] using h2, by simp [PyData.depth]; omega, by simp only [cst]; omega⟩
theorem ok4_lst {ds : List PyData} {n c : Nat} (h : ∀ d ∈ ds, ok4 d n c) : ok4 (.list ds) (n + 1) (3 + ds.length * (c + 2)) := by
  obtain ⟨h1, h2, h3, h4⟩ := ok_list h
  exact ⟨by simpa [PyData.showable] using h1, by simpa [PyData.hasDict] using h2, by simp [PyData.depth]; omega, by simp only [cst]; omega⟩
theorem ok4_int {i : Int} (h : -1000 ≤ i ∧ i ≤ 1000) : ok4 (.int i) 1 2000 := ⟨ok_small h, by simp [PyData.hasDict], by simp [PyData.depth], by simp only [cst]; omega⟩
theorem ok4_up {d : PyData} {n c n' c' : Nat} (h : ok4 d n c) (h1 : n ≤ n') (h2 : c ≤ c') : ok4 d n' c' := ⟨h.1, h.2.1, Nat.le_trans h.2.2.1 h1, Nat.le_trans h.2.2.2 h2⟩
theorem ok4_ok {d : PyData} {n c : Nat} (h : ok4 d n c) (h1 : n ≤ 40) (h2 : c ≤ 10000000) : okD d := ⟨h.1, h.2.1, Nat.le_trans h.2.2.1 h1, Nat.le_trans h.2.2.2 h2⟩
theorem ok_bool (b : Bool) : okD (.bool b) := ⟨by simp [PyData.showable], by simp [PyData.hasDict], by simp [PyData.depth], by simp only [cst]; omega⟩
theorem ok4_none : ok4 .none 1 2000 := ⟨by simp [PyData.showable], by simp [PyData.hasDict], by simp [PyData.depth], by simp only [cst]; omega⟩
theorem ok_none : okD .none := ok4_ok ok4_none (by decide) (by decide)
theorem flat_tuple {n : Nat} {ds : List PyData} (h : ∀ d ∈ ds, d.canLay0 = true ∧ d.depth ≤ n) : (PyData.tuple ds).canLay0 = true ∧ (PyData.tuple ds).depth ≤ n + 1 := by
  obtain ⟨h1, h2⟩ := flat_list h
  exact ⟨by simpa [PyData.canLay0] using h1, by simpa [PyData.depth] using h2⟩
theorem flat_is {ns : List Int} : ∀ d ∈ ns.map PyData.int, d.canLay0 = true ∧ d.depth ≤ 1 := fun d hd => by
  obtain ⟨p, _, rfl⟩ := List.mem_map.mp hd
  exact flat_int
theorem shp_i (ns : List Int) : SeqAt.shaped (.list (ns.map PyData.int)) = true := flat_shaped (flat_up (flat_list flat_is) (by decide))
theorem eqv_me {d : PyData} (h : SeqAt.shaped d = true) : PyData.eqv d d = true := PySem.SeqAt.eqv_refl d (shaped_lay h)
theorem eqv_t0 (ds : List PyData) : PyData.eqv (.tuple ds) (.tuple []) = ds.isEmpty := by
  cases ds <;> simp [PyData.eqv, PyData.eqvAll]
theorem srtD_int {ns : List Int} (h : ns.Pairwise (· ≤ ·)) : srtD (ns.map PyData.int) = ns.map PyData.int := by
  unfold srtD
  refine List.mergeSort_of_pairwise (List.pairwise_map.mpr (h.imp fun {a b} hab => ?_))
  have e := congrFun (congrFun (PySem.W.dataLe_int (β := Int) (fun k => k)) a) b
  exact e.trans (decide_eq_true hab)
theorem sorted_is {ns : List Int} {m : Mu} {F : Y → Mu → Prop} (hl : ns.length ≤ 10000) (hp : ns.Pairwise (· ≤ ·)) (h : F (.d (.list (ns.map PyData.int))) m) : xSortedD [.d (.list (ns.map PyData.int))] m F := by
  refine ⟨_, ns.map PyData.int, rfl, rfl, PySem.W.AllAlike.of fun _ _ => rfl, PySem.W.Sortable.others fun b => ⟨by simp, by simp⟩, ?_, by rw [List.length_map]; exact hl, fun d hd => Nat.le_trans (flat_is d hd).2 (by decide), by rw [srtD_int hp]; exact h⟩
  clear hl hp h
  induction ns with
  | nil => rfl
  | cons p ps ih => simpa [PyData.hasDictAll, PyData.hasDict] using ih
theorem len6 {α : Type} (a b c d e f : α) : [a, b, c, d, e, f].length ≤ 10000 := Nat.le_of_ble_eq_true rfl
theorem kTT {K : PySem.W.Frag} {ds : List PyData} : PySem.W.kitOne K (.type (tyD (.tuple ds))) (.type "tuple") = some true := kit_ty (show kitB "tuple" "tuple" = some true by decide +kernel)

theorem and_off {b : Bool} {A B : Prop} (h : B) (ha : b = true → B → A) : if b = true then A else B := by
  cases b
  · exact h
  · exact ha rfl h
theorem mu_none {m : Mu} {a p : Addr} {o : MO} (h : mu m a o p = none) : p ≠ a ∧ m p = none := by
  by_cases e : p = a
  · subst e; rw [mu_same] at h; cases h
  · exact ⟨e, by rwa [mu_ne e] at h⟩
theorem made_le {m m' : Mu} {a p : Addr} {o u v : MO} (na : m a = none) (np : mu m a o p = none) (h : Mle (mu (mu (mu m a o) p u) a v) m') : Mle m m' := fun x w e => h x w (by
  obtain ⟨_, hp⟩ := mu_none np
  have h1 : x ≠ a := fun z => by rw [z, na] at e; cases e
  have h2 : x ≠ p := fun z => by rw [z, hp] at e; cases e
  rw [mu_ne h1, mu_ne h2, mu_ne h1]; exact e)
def fn3 {α : Type} (x y z : α) : Nat → α := fun j => if j = 0 then x else if j = 1 then y else z
theorem vc_eqc {v : Nat} {i o : Int} {r : Ro} {m : Mu} {F : Bool → Mu → Prop} {P : XP} (h1 : r[v]? = some (some (.d (.int o)))) (h2 : F (decide (o = i)) m) : xB (xOp xEq (xVar v) (xC (.d (.int i)))) r m F P :=
  ⟨_, h1, eq_int (F := fun y m1 => ∃ k, y = .d (.bool k) ∧ F k m1) ⟨_, rfl, h2⟩⟩
theorem len0 {α : Type} : ([] : List α).length ≤ 10000 := Nat.zero_le _
theorem alt_meth {C0 C1 C2 a dx : Addr} {nm : Str} {D : Nat → DSp} {ta : XA} {i j : Nat} {r : Ro} {m : Mu} {F : Y → Mu → Prop} {P : XP} {gs : List (Str × Y)} (hj : j < 3) (hr : r[i]? = some (some (.l a))) (ho : m a = some (.ins (fn3 C0 C1 C2 j) dx gs)) (hn : gs.lookup nm = none)
    (h : ta r m (fun ys m2 => D j (.l a :: (ys ++ [])) m2 F P) P) : xMeth C0 nm (D 0) [] (xVar i) ta r m F P ∨ (xMeth C1 nm (D 1) [] (xVar i) ta r m F P ∨ xMeth C2 nm (D 2) [] (xVar i) ta r m F P) := by
  match j, hj with
  | 0, _ => exact .inl ⟨_, hr, a, dx, gs, rfl, ho, hn, h⟩
  | 1, _ => exact .inr (.inl ⟨_, hr, a, dx, gs, rfl, ho, hn, h⟩)
  | 2, _ => exact .inr (.inr ⟨_, hr, a, dx, gs, rfl, ho, hn, h⟩)
def any3 (d : Nat → DSp) : DSp := fun ys m F P => ∃ j, j < 3 ∧ d j ys m F P
theorem any3_of {pr : Program} {w : World} {K : PySem.W.Frag} {mg : Str → Option Value} {base : Heap} {k : Nat} {f : Addr} {fd : FuncData} {ps : List Str} {d : Nat → DSp} (h0 : FnD pr w K mg base k f fd ps (d 0)) (h1 : FnD pr w K mg base k f fd ps (d 1)) (h2 : FnD pr w K mg base k f fd ps (d 2)) : FnD pr w K mg base k f fd ps (any3 d) :=
  (h0.or (h1.or h2)).imp fun ys m F P ⟨j, hj, h⟩ => by
    match j, hj with
    | 0, _ => exact .inl h
    | 1, _ => exact .inr (.inl h)
    | 2, _ => exact .inr (.inr h)
theorem deep_ds {m : Mu} : ∀ ds : List PyData, DeepYs m (ds.map Y.d) ds
  | [] => .nil
  | d :: ds => .cons (.d d) (deep_ds ds)
end Dl
namespace Dl
open PySem PySem.Spec PyProof.Rows L2 Evl
theorem Room.u1 {k : Nat} {A : Around} (hr : L2.Room k A) : A.units + 1 < cLine := by have := Dl.Room.u64 hr; omega
/-! ### models: instructions, what they may hold -/
inductive Ins where
  | op (w : Str) (ns : List Int)
  | rep (n : Int) (b : List Ins)
  | fore (b : List Ins)
mutual
def insD : Ins → PyData
  | .op w ns => .tuple (.str w :: ns.map PyData.int)
  | .rep n b => .tuple [.str "repeat", .int n, .tuple (inssD b)]
  | .fore b => .tuple [.str "forever", .tuple (inssD b)]
def inssD : List Ins → List PyData
  | [] => []
  | i :: is => insD i :: inssD is
end
theorem inssD_map : ∀ is : List Ins, inssD is = is.map insD
  | [] => rfl
  | i :: is => by rw [inssD, inssD_map is]; rfl
abbrev scrD (is : List Ins) : PyData := .tuple (is.map insD)
theorem insD_rep (n : Int) (b : List Ins) : insD (.rep n b) = .tuple [.str "repeat", .int n, scrD b] := by rw [insD, inssD_map]
theorem insD_fore (b : List Ins) : insD (.fore b) = .tuple [.str "forever", scrD b] := by rw [insD, inssD_map]
/-- the ten plain instructions and what their numbers stand for -/
def kindsL : List (Str × List Str) := [("wait", ["time"]), ("take", ["resource", "rank"]), ("give", ["resource"]), ("put", ["store", "item"]), ("get", ["store"]), ("pass", ["gate"]), ("open", ["gate"]), ("shut", ["gate"]), ("rouse", ["process"]), ("mark", ["mark"])]
structure Lims where
  nr : Int
  ns : Int
  ng : Int
  np : Int
def lastL (L : Lims) : List (Str × PyData) := [("time", .none), ("resource", .int (L.nr - 1)), ("rank", .int 9), ("store", .int (L.ns - 1)), ("item", .int 99), ("gate", .int (L.ng - 1)), ("process", .int (L.np - 1)), ("mark", .int 999)]
def lastD (L : Lims) : PyData := .dict ((lastL L).map fun p => (.str p.1, p.2))
def lastOf (L : Lims) (k : Str) : PyData := ((lastL L).lookup k).getD .none
/-- a whole number from lo to hi; no end where hi is None -/
def isBn (d : PyData) (lo : Int) (hi : PyData) : Bool := match d, hi with
  | .int x, .int h => decide (lo ≤ x) && decide (x ≤ h)
  | .int x, .none => decide (lo ≤ x)
  | _, _ => false
def isT (d : PyData) (lo : Int) (hi : PyData) : Bool := match d with
  | .tuple ds => isBn (.int ds.length) lo hi
  | _ => false
def okOp (L : Lims) (w : Str) (ns : List Int) : Bool := match kindsL.lookup w with
  | some ks => decide (ns.length = ks.length) && (ns.zip ks).all fun p => isBn (.int p.1) 0 (lastOf L p.2)
  | none => false
mutual
def okI (L : Lims) (j : Int) : Ins → Bool
  | .op w ns => okOp L w ns
  | .rep n b => decide (j ≤ 3) && (isBn (.int n) 0 (.int 5) && (!b.isEmpty && okIs L (j + 1) b))
  | .fore _ => false
def okIs (L : Lims) (j : Int) : List Ins → Bool
  | [] => true
  | i :: is => okI L j i && okIs L j is
end
theorem okIs_all (L : Lims) (j : Int) : ∀ is : List Ins, okIs L j is = is.all (okI L j)
  | [] => rfl
  | i :: is => by rw [okIs, okIs_all L j is]; rfl
def isFore (L : Lims) : Ins → Bool
  | .fore b => !b.isEmpty && b.all (okI L 2)
  | _ => false
def okScr (L : Lims) (is : List Ins) : Bool := match is.getLast? with
  | some i => if isFore L i then is.dropLast.all (okI L 1) else is.all (okI L 1)
  | none => true
/-- the facts of the written dict -/
structure KinF (K : PySem.W.Frag) (w : World) (a : Addr) : Prop where
  D : ∃ es n, KDict K w a es n
  t : ∀ q ∈ kindsL, ∃ p, PySem.W.nsIn K a q.1 = some (some (.ref p)) ∧ TupK K p q.2
  nf : PySem.W.nsIn K a "forever" = some none
  nr : PySem.W.nsIn K a "repeat" = some none
theorem look_mem {w : Str} {ks : List Str} : ∀ {l : List (Str × List Str)}, l.lookup w = some ks → (w, ks) ∈ l
  | [], h => by simp at h
  | (x, y) :: l, h => by
    rw [List.lookup_cons] at h
    by_cases e : (w == x) = true
    · rw [e] at h
      cases h
      rw [eq_of_beq e]; simp
    · have e' : (w == x) = false := by simpa using e
      rw [e'] at h
      exact List.mem_cons_of_mem _ (look_mem h)
theorem KinF.get {K : PySem.W.Frag} {w : World} {a : Addr} (h : KinF K w a) {x : Str} {ks : List Str} (e : kindsL.lookup x = some ks) : ∃ p, PySem.W.nsIn K a x = some (some (.ref p)) ∧ TupK K p ks ∧ KDct K w a x (.ref p) := by
  obtain ⟨p, h1, h2⟩ := h.t _ (look_mem e)
  obtain ⟨es, n, D⟩ := h.D
  exact ⟨p, h1, h2, es, n, .ref p, D.at_, D.lit, h1, rfl⟩
theorem last_get (L : Lims) {k : Str} {d : PyData} (h : (lastL L).lookup k = some d) : dGet ((lastL L).map fun p => (.str p.1, p.2)) k = some d := by
  generalize lastL L = l at h
  induction l with
  | nil => simp at h
  | cons p l ih =>
    obtain ⟨x, y⟩ := p
    rw [List.lookup_cons] at h
    unfold dGet at ih ⊢
    rw [List.map_cons, List.find?_cons]
    by_cases e : (k == x) = true
    · rw [e] at h
      cases h
      have := eq_of_beq e
      subst this
      simp
    · have e' : (k == x) = false := by simpa using e
      rw [e'] at h
      have : ¬ x = k := fun z => by subst z; simp at e
      simpa [this] using ih h
theorem kinds_last (L : Lims) : ∀ q ∈ kindsL, ∀ k ∈ q.2, (lastL L).lookup k = some (lastOf L k) := by
  have h : ∀ k : Str, (["time", "resource", "rank", "store", "item", "gate", "process", "mark"] : List Str).contains k = true → ((lastL L).lookup k).isSome = true := by
    intro k hk
    have e : ((lastL L).map (·.1)) = (["time", "resource", "rank", "store", "item", "gate", "process", "mark"] : List Str) := rfl
    rw [← e] at hk
    generalize lastL L = l at hk
    induction l with
    | nil => simp at hk
    | cons p l ih =>
      rw [List.lookup_cons]
      by_cases e : (k == p.1) = true
      · rw [e]; rfl
      · have e' : (k == p.1) = false := by simpa using e
        rw [e']
        refine ih ?_
        rw [List.map_cons, List.contains_cons, e', Bool.false_or] at hk
        exact hk
  have c : kindsL.all (fun q => q.2.all fun k => (["time", "resource", "rank", "store", "item", "gate", "process", "mark"] : List Str).contains k) = true := by decide +kernel
  intro q hq k hk
  have h1 := List.all_eq_true.mp (List.all_eq_true.mp c q hq) k hk
  obtain ⟨d, hd⟩ := Option.isSome_iff_exists.mp (h k h1)
  unfold lastOf
  rw [hd]; rfl

structure Mod where
  res : List (Str × Int)
  sto : List (Int × List Int)
  gat : List Str
  scr : List (List Ins)
def resD (p : Str × Int) : PyData := .tuple [.str p.1, .int p.2]
def stoD (p : Int × List Int) : PyData := .tuple [.int p.1, .tuple (p.2.map PyData.int)]
def modD (M : Mod) : PyData := .tuple [.tuple (M.res.map resD), .tuple (M.sto.map stoD), .tuple (M.gat.map PyData.str), .tuple (M.scr.map scrD)]
def limsOf (M : Mod) : Lims := ⟨M.res.length, M.sto.length, M.gat.length, M.scr.length⟩
def discL : List Str := ["fifo", "rank", "preempt"]
def gateL : List Str := ["open", "shut"]
def okRes (p : Str × Int) : Bool := decide (p.1 ∈ discL) && isBn (.int p.2) 1 (.int 3)
def okSto (p : Int × List Int) : Bool := isBn (.int p.1) 1 (.int 4) && (isBn (.int p.2.length) 0 (.int p.1) && p.2.all fun i => isBn (.int i) 0 (.int 99))
def okM (M : Mod) : Bool := decide ((M.res.length : Int) ≤ 4) && (decide ((M.sto.length : Int) ≤ 3) && (decide ((M.gat.length : Int) ≤ 3) && ((decide ((1 : Int) ≤ M.scr.length) && decide ((M.scr.length : Int) ≤ 6)) && (M.res.all okRes && (M.sto.all okSto && ((M.gat.all fun g => decide (g ∈ gateL)) && M.scr.all (okScr (limsOf M))))))))
theorem bAnd {a b : Bool} {A : Prop} {F : Y → Mu → Prop} {m m1 : Mu} (h : ∀ m', Mle m m' → F (.d (.bool (a && b))) m') (hm : Mle m m1) (hA : (∀ m', Mle m m' → F (.d (.bool b)) m') → a = true → A) : if a = true then A else F (.d (.bool false)) m1 := by
  cases a with
  | true => exact hA h rfl
  | false => exact h m1 hm
theorem inD_str {x : Str} : ∀ {xs : List Str}, inD (.str x) (xs.map PyData.str) = decide (x ∈ xs)
  | [] => rfl
  | y :: ys => by
    have ih := inD_str (x := x) (xs := ys)
    unfold inD inV at ih ⊢
    rw [List.map_cons, List.map_cons, List.any_cons, ih]
    by_cases h : x = y
    · subst h; simp [toV, eqV]
    · by_cases h2 : x ∈ ys <;> simp [toV, eqV, h, h2, Ne.symm h]
theorem flat_strs : ∀ xs : List Str, (xs.map PyData.str).all flatD = true
  | [] => rfl
  | x :: xs => by rw [List.map_cons, List.all_cons, flat_strs xs]; rfl
theorem tup4 {x y z t : PyData} {M : Mu} {r : Ro} {g : XGs} {F : Ro → Mu → Prop} (h : g [.d x, .d y, .d z, .d t] r M F) : xgTup 4 g (.d (.tuple [x, y, z, t])) r M F := by
  refine ⟨[.d x, .d y, .d z, .d t], rfl, ?_, ?_, ?_, rfl, h⟩
  all_goals intro _ e; cases e
def isTu (d : PyData) : Bool := match d with
  | .tuple _ => true
  | _ => false
def isSt (d : PyData) : Bool := match d with
  | .str _ => true
  | _ => false
theorem isi_tuple {K : PySem.W.Frag} (d : PyData) : PySem.W.kitOne K (.type (tyD d)) (.type "tuple") = some (isTu d) := by
  have h1 : kitB "NoneType" "tuple" = some false := by decide +kernel
  have h2 : kitB "bool" "tuple" = some false := by decide +kernel
  have h3 : kitB "int" "tuple" = some false := by decide +kernel
  have h4 : kitB "str" "tuple" = some false := by decide +kernel
  have h5 : kitB "list" "tuple" = some false := by decide +kernel
  have h6 : kitB "tuple" "tuple" = some true := by decide +kernel
  have h7 : kitB "dict" "tuple" = some false := by decide +kernel
  cases d <;> first | exact kit_ty h1 | exact kit_ty h2 | exact kit_ty h3 | exact kit_ty h4 | exact kit_ty h5 | exact kit_ty h6 | exact kit_ty h7
theorem isi_str {K : PySem.W.Frag} (d : PyData) : PySem.W.kitOne K (.type (tyD d)) (.type "str") = some (isSt d) := by
  have h1 : kitB "NoneType" "str" = some false := by decide +kernel
  have h2 : kitB "bool" "str" = some false := by decide +kernel
  have h3 : kitB "int" "str" = some false := by decide +kernel
  have h4 : kitB "str" "str" = some true := by decide +kernel
  have h5 : kitB "list" "str" = some false := by decide +kernel
  have h6 : kitB "tuple" "str" = some false := by decide +kernel
  have h7 : kitB "dict" "str" = some false := by decide +kernel
  cases d <;> first | exact kit_ty h1 | exact kit_ty h2 | exact kit_ty h3 | exact kit_ty h4 | exact kit_ty h5 | exact kit_ty h6 | exact kit_ty h7
theorem iteB {k : Bool} {A B : Prop} (h1 : k = true → A) (h2 : k = false → B) : if k = true then A else B := by
  cases k
  · exact h2 rfl
  · exact h1 rfl
theorem hi_ok {hi : PyData} {x lo : Int} (hh : hi = .none ∨ ∃ h, hi = .int h) : isBn (.int x) lo hi = (decide (lo ≤ x) && (isN (.d hi) || (match hi with | .int h => decide (x ≤ h) | _ => false))) := by
  rcases hh with rfl | ⟨h, rfl⟩
  · simp [isBn, isN]
  · simp [isBn, isN]
/-! the comprehension's truth values -/
theorem all_bools {α : Type} (f : α → Bool) : ∀ xs : List α, (xs.map f).all id = xs.all f
  | [] => rfl
  | x :: xs => by rw [List.map_cons, List.all_cons, List.all_cons, all_bools f xs]; rfl
/-! ### facts of the text -/
structure Txt (K : PySem.W.Frag) (mg : Str → Option Value) : Prop where
  b_isinstance : mg "isinstance" = none
  b_int : mg "int" = none
  b_bool : mg "bool" = none
  b_len : mg "len" = none
  b_tuple : mg "tuple" = none
  b_str : mg "str" = none
  b_all : mg "all" = none
  b_range : mg "range" = none
  b_zip : mg "zip" = none
  b_repr : mg "repr" = none
  b_max : mg "max" = none
  b_min : mg "min" = none
  b_enumerate : mg "enumerate" = none
  b_list : mg "list" = none
  b_sum : mg "sum" = none
  c_LAST_ITEM : ∃ t, mg "LAST_ITEM" = some (.int 99 t)
  c_LAST_MARK : ∃ t, mg "LAST_MARK" = some (.int 999 t)
  c_LAST_RANK : ∃ t, mg "LAST_RANK" = some (.int 9 t)
  c_MOST_CAPACITY : ∃ t, mg "MOST_CAPACITY" = some (.int 4 t)
  c_MOST_DEPTH : ∃ t, mg "MOST_DEPTH" = some (.int 3 t)
  c_MOST_GATES : ∃ t, mg "MOST_GATES" = some (.int 3 t)
  c_MOST_RESOURCES : ∃ t, mg "MOST_RESOURCES" = some (.int 4 t)
  c_MOST_SCRIPTS : ∃ t, mg "MOST_SCRIPTS" = some (.int 6 t)
  c_MOST_STORES : ∃ t, mg "MOST_STORES" = some (.int 3 t)
  c_MOST_TIMES : ∃ t, mg "MOST_TIMES" = some (.int 5 t)
  c_DISCIPLINES : ∃ p, mg "DISCIPLINES" = some (.ref p) ∧ TupK K p discL
  c_GATE_WORDS : ∃ p, mg "GATE_WORDS" = some (.ref p) ∧ TupK K p gateL
end Dl
/-! D22: comprehensions over typed data. -/
namespace Dl
open PySem PySem.Spec PyProof.Rows L2 Evl
section
variable {r : Ro} {m : Mu} {F : Y → Mu → Prop} {g : XG} {tt : XT} {te : XE} {vs : List Nat}
theorem lc_typed {α : Type} (enc : α → PyData) (f : α → PyData) {xs : List α} {y : Y} (hn : xs.length ≤ 10000) (hy : ∀ p, y ≠ .l p)
    (ht : ∀ x M, x ∈ xs → Mle m M → ∀ (C : Y → Mu → Prop) (N : Mu → Prop), (∀ M', Mle M M' → C (.d (f x)) M') → g (.d (enc x)) (wipeR r vs) M (fun r2 M2 => tt r2 M2 (fun b M3 => if b = true then te r2 M3 C P0 else N M3) P0))
    (hf : ∀ m', Mle m m' → F (.d (.list (xs.map f))) m') : LcZ finD (wkSeq m y ((xs.map enc).map Y.d)) g tt te vs r m F := by
  have hl : ((xs.map enc).map Y.d).length = xs.length := by rw [List.length_map, List.length_map]
  refine lc_go (k := wkSeq m y ((xs.map enc).map Y.d)) (fun i => xs[i]?.map fun x => Y.d (f x)) (by show ((xs.map enc).map Y.d).length ≤ _; rw [hl]; exact hn) (fun M hM p e => absurd e (hy p)) (fun i M hi hM C N hC hN => ?_) (fun D M hD hM => ?_)
  · have hi' : i < xs.length := by
      have hi2 : i < ((xs.map enc).map Y.d).length := hi
      rwa [hl] at hi2
    have e1 : xs[i]? = some xs[i] := List.getElem?_eq_getElem hi'
    rw [e1] at hC hN
    exact ⟨.d (enc xs[i]), by rw [List.getElem?_map, List.getElem?_map, e1]; rfl, ht _ M (List.getElem_mem hi') hM C N fun m' hm' => hC _ m' rfl hm'⟩
  · have ek : (List.range ((xs.map enc).map Y.d).length).filterMap (fun i => xs[i]?.map fun x => Y.d (f x)) = (xs.map f).map Y.d := by
      rw [hl]
      have := fm_all (fun x => some (Y.d (f x))) xs
      rw [show (fun i => xs[i]?.map fun x => Y.d (f x)) = fun i => xs[i]?.bind fun x => some (Y.d (f x)) by funext i; cases xs[i]? <;> rfl, this, List.filterMap_eq_map', List.map_map]
      rfl
    have hM' : Mle (mu m D (.lst ((List.range ((xs.map enc).map Y.d).length).filterMap (fun i => xs[i]?.map fun x => Y.d (f x))))) M := hM
    show finD D ((List.range ((xs.map enc).map Y.d).length).filterMap _) M F
    rw [ek] at hM' ⊢
    exact fin_d _ rfl hD hM' hf
theorem lc_typedO {α : Type} (enc : α → PyData) (f : α → Option PyData) {xs : List α} {y : Y} (hn : xs.length ≤ 10000) (hy : ∀ p, y = .l p → m p ≠ none)
    (ht : ∀ x M, x ∈ xs → Mle m M → ∀ (C : Y → Mu → Prop) (N : Mu → Prop), (∀ d M', f x = some d → Mle M M' → C (.d d) M') → (∀ M', f x = none → Mle M M' → N M') → g (.d (enc x)) (wipeR r vs) M (fun r2 M2 => tt r2 M2 (fun b M3 => if b = true then te r2 M3 C P0 else N M3) P0))
    (hf : ∀ m', Mle m m' → F (.d (.list (xs.filterMap f))) m') : LcZ finD (wkSeq m y ((xs.map enc).map Y.d)) g tt te vs r m F := by
  have hl : ((xs.map enc).map Y.d).length = xs.length := by rw [List.length_map, List.length_map]
  refine lc_go (k := wkSeq m y ((xs.map enc).map Y.d)) (fun i => xs[i]?.bind fun x => (f x).map Y.d) (by show ((xs.map enc).map Y.d).length ≤ _; rw [hl]; exact hn) (fun M hM p e => ?_) (fun i M hi hM C N hC hN => ?_) (fun D M hD hM => ?_)
  · cases q : m p with
    | none => exact absurd q (hy p e)
    | some o => exact hM p o q
  · have hi' : i < xs.length := by
      have hi2 : i < ((xs.map enc).map Y.d).length := hi
      rwa [hl] at hi2
    have e1 : xs[i]? = some xs[i] := List.getElem?_eq_getElem hi'
    rw [e1] at hC hN
    exact ⟨.d (enc xs[i]), by rw [List.getElem?_map, List.getElem?_map, e1]; rfl, ht _ M (List.getElem_mem hi') hM C N (fun d m' hd hm' => hC _ m' (by show (f xs[i]).map Y.d = _; rw [hd]; rfl) hm') (fun m' hd hm' => hN m' (by show (f xs[i]).map Y.d = _; rw [hd]; rfl) hm')⟩
  · have ek : (List.range ((xs.map enc).map Y.d).length).filterMap (fun i => xs[i]?.bind fun x => (f x).map Y.d) = (xs.filterMap f).map Y.d := by
      rw [hl, fm_all (fun x => (f x).map Y.d) xs, List.map_filterMap]
    have hM' : Mle (mu m D (.lst ((List.range ((xs.map enc).map Y.d).length).filterMap (fun i => xs[i]?.bind fun x => (f x).map Y.d)))) M := hM
    show finD D ((List.range ((xs.map enc).map Y.d).length).filterMap _) M F
    rw [ek] at hM' ⊢
    exact fin_d _ rfl hD hM' hf
theorem lc_rng (f : Nat → PyData) {n : Nat} (hn : n ≤ 10000)
    (ht : ∀ i M, i < n → Mle m M → ∀ (C : Y → Mu → Prop) (N : Mu → Prop), (∀ M', Mle M M' → C (.d (f i)) M') → g (.d (.int (0 + (i : Int)))) (wipeR r vs) M (fun r2 M2 => tt r2 M2 (fun b M3 => if b = true then te r2 M3 C P0 else N M3) P0))
    (hf : ∀ m', Mle m m' → F (.d (.list ((List.range n).map f))) m') : LcZ finD (wkRange 0 n) g tt te vs r m F := by
  refine lc_go (k := wkRange 0 n) (fun i => some (.d (f i))) hn (fun _ _ => trivial) (fun i M hi hM C N hC hN => ht i M hi hM C N fun M' hM' => hC _ M' rfl hM') (fun D M hD hM => ?_)
  have ek : (List.range n).filterMap (fun i => some (Y.d (f i))) = ((List.range n).map f).map Y.d := by rw [List.filterMap_eq_map', List.map_map]; rfl
  have hM' : Mle (mu m D (.lst ((List.range n).filterMap fun i => some (Y.d (f i))))) M := hM
  show finD D ((List.range n).filterMap _) M F
  rw [ek] at hM' ⊢
  exact fin_d _ rfl hD hM' hf
end
section
variable {pr : Program} {w : World} {K : PySem.W.Frag} {mg : Str → Option Value} {base : Heap} {f : Addr} {fd : FuncData} {ps : List Str}
theorem FnD.never {k : Nat} {d : DSp} (h : ∀ ys m F P, ¬ d ys m F P) : FnD pr w K mg base k f fd ps d :=
  ⟨fun ys m F P q => absurd q (h ys m F P), fun A outer s H args us vs Q E _ _ _ _ _ hc => by
    obtain ⟨G, m, ys, F1, P, _, _, h3, _⟩ := hc
    exact absurd h3 (h ys m F1 P)⟩
/-- a def that calls itself: at depth n it is asked of depths below n -/
theorem FnD.fam {d : Nat → DSp} {k0 c : Nat} (step : ∀ n a, k0 ≤ a → FnD pr w K mg base a f fd ps (fun ys m F P => ∃ k, n = k + 1 ∧ d k ys m F P) → FnD pr w K mg base (a + c) f fd ps (d n)) : ∀ n, FnD pr w K mg base (k0 + c * (n + 1)) f fd ps (d n)
  | 0 => (step 0 k0 (Nat.le_refl _) (FnD.never fun _ _ _ _ ⟨k, e, _⟩ => by cases e)).mono (by omega)
  | n + 1 => by
    have := step (n + 1) (k0 + c * (n + 1)) (Nat.le_add_right _ _) ((FnD.fam step n).imp fun ys m F P ⟨k, e, h⟩ => by cases e; exact h)
    exact this.mono (by rw [Nat.mul_succ c (n + 1)]; omega)
theorem GF.mono {x : Str} {j k : Nat} {d : DSp} (h : GF pr w K mg base x j f fd ps d) (l : j ≤ k) : GF pr w K mg base x k f fd ps d := ⟨h.fn.mono l, h.bn, h.gm, h.kp⟩
end
section
variable {X : Cx} {es : List Expr} {pos : Pos} {gs : XGs}
/-- a, b, .. = a list, or a tuple -/
abbrev xgLst (n : Nat) (gs : XGs) : XG := fun y r m F => ∃ ys, LsY m y ys ∧ ys.length = n ∧ gs ys r m F
theorem dg_lst {k n : Nat} (hc : X.calm = true) (h : DGs X es gs) (hn : (assignEach es X.env).length = n := by rfl) (hst : (assignEach es X.env).findIdx? (·.1) = none := by rfl) : DG X (.Tuple es k pos) (xgLst n gs) := ⟨fun {G r m σ H v y F Q} rs rh rv ⟨ys, h1, h5, h6⟩ cv => by
  obtain ⟨p, vs, rfl, s1, q⟩ := lsY_ok rh rv h1
  exact sg_of (pg_lst hc sgs_pgs hn hst) ⟨p, vs, rfl, .inl s1, by rw [q.length]; exact h5, h.run rs rh q h6 cv⟩⟩
abbrev xgTupB (n : Nat) (gs : XGs) : XG := fun y r m F => xgTup n gs y r m F ∨ xgLst n gs y r m F
theorem dg_tupB {k n : Nat} (hc : X.calm = true) (h : DGs X es gs) (hn : (assignEach es X.env).length = n := by rfl) (hst : (assignEach es X.env).findIdx? (·.1) = none := by rfl) : DG X (.Tuple es k pos) (xgTupB n gs) :=
  ⟨fun rs rh rv q cv => q.elim (fun q => (dg_tup hc h hn hst).run rs rh rv q cv) (fun q => (dg_lst hc h hn hst).run rs rh rv q cv)⟩
end
theorem cut_last {α : Type} (xs : List α) (x : α) : cutD (xs ++ [x]) none (some (-1)) = xs := by
  unfold cutD
  have h1 : HT.sIx (xs ++ [x]).length 0 none = 0 := rfl
  have h2 : HT.sIx (xs ++ [x]).length (xs ++ [x]).length (some (-1)) = xs.length := by simp [HT.sIx]; omega
  rw [h1, h2]
  simp
end Dl
/-! D23: t[::-1] of a tuple. -/
namespace Dl
open PySem PySem.Spec PyProof.Rows L2 Evl
theorem back_ends (n : Nat) : PySem.Builtin.Slice.sliceAdjust none none (-1) (n : Int) = ((n : Int) - 1, -1) := rfl
theorem back_many (n : Nat) : PySem.Builtin.Slice.slicePlaces ((n : Int) - 1) (-1) (-1) = n := by
  unfold PySem.Builtin.Slice.slicePlaces
  rw [if_neg (show ¬ ((-1 : Int) > 0) by decide)]
  split
  · rw [show (-(-1) : Int) = 1 by decide, Int.ediv_one]; omega
  · omega
theorem fm_same {α β : Type} {f g : α → Option β} : ∀ {l : List α}, (∀ x ∈ l, f x = g x) → l.filterMap f = l.filterMap g
  | [], _ => rfl
  | x :: l, h => by rw [List.filterMap_cons, List.filterMap_cons, h x (List.mem_cons_self ..), fm_same fun y hy => h y (List.mem_cons_of_mem _ hy)]
theorem back_pick (xs : Array Value) : ((List.range xs.size).filterMap fun (k : Nat) => xs[(((xs.size : Nat) : Int) - 1 + (k : Int) * -1).toNat]?).toArray = xs.toList.reverse.toArray := by
  congr 1
  have e : (List.range xs.size).filterMap (fun (k : Nat) => xs[(((xs.size : Nat) : Int) - 1 + (k : Int) * -1).toNat]?) = (List.range xs.size).filterMap fun k => xs.toList.reverse[k]? := by
    refine fm_same fun k hk => ?_
    have hk' : k < xs.size := List.mem_range.mp hk
    rw [List.getElem?_reverse (by simpa using hk'), Array.getElem?_toList]
    congr 1
    simp only [Array.length_toList]
    omega
  rw [e]
  have q := fm_all (fun x => some x) xs.toList.reverse
  rw [List.filterMap_some, List.length_reverse, Array.length_toList] at q
  exact (fm_same fun k _ => by cases xs.toList.reverse[k]? <;> rfl).trans q
section
variable {s : Shared} {E : Value → Shared → Prop} {A : Around} {prog : Program} {w : World}
theorem back_applied {c : Addr} {vs : Value} {n : Nat} {Q : Int × Int × Nat → Shared → Prop} (hs : s.heap.IsSliceOf c .none .none vs) (ps : IsPart vs (some (-1))) (h : Q ((n : Int) - 1, -1, n) s) : wpAny (model prog w) A (PySem.Builtin.Slice.sliceApplied (.ref c) (pure (n : Int))) Q E s := by
  obtain ⟨o, g1, g2, g3⟩ := hs
  unfold PySem.Builtin.Slice.sliceApplied PySem.Builtin.Slice.sliceFields
  refine wpAny_bind (wpAny_bind (wpAny_field g1 g3 (x := .none) rfl (wpAny_bind (wpAny_field g1 g3 (x := .none) rfl (wpAny_bind (wpAny_field g1 g3 (x := vs) rfl (wpAny_pure ?_)))))))
  refine wpAny_bind (HT.slicePart_ ps ?_)
  show wpAny _ _ (if ((-1 : Int) == 0) = true then _ else _) _ _ s
  rw [if_neg (by decide)]
  refine wpAny_bind (HT.slicePart_ .none (wpAny_bind (HT.slicePart_ .none (wpAny_bind (wpAny_pure ?_)))))
  show wpAny _ _ (pure (((n : Int) - 1), (-1 : Int), PySem.Builtin.Slice.slicePlaces ((n : Int) - 1) (-1) (-1))) _ _ s
  rw [back_many]
  exact wpAny_pure h
theorem back_item {t c : Addr} {items : Array Value} {vs : Value} {Q : Value → Shared → Prop} (ht : IsTup s.heap t items) (hs : s.heap.IsSliceOf c .none .none vs) (ps : IsPart vs (some (-1)))
    (h : Q (.ref s.heap.objs.size) { s with heap := s.heap.push { cls := .type "tuple", data := .seq items.toList.reverse.toArray } }) (hz : items.size ≤ sizeLine) : wpAny (model prog w) A (getItem (.ref t) (.ref c)) Q E s := by
  have hk : sizeOk (.seq items.toList.reverse.toArray) := by
    show items.toList.reverse.toArray.size ≤ sizeLine
    rw [List.size_toArray, List.length_reverse, Array.length_toList]
    exact hz
  obtain ⟨o, g1, g2, g3⟩ := id hs
  have hT : s.TypeIs (.ref c) "slice" := ⟨o, g1, g2⟩
  unfold getItem
  (try with_reducible refine wpAny_holding ?_)
  (first | refine wpAny_bind (wpAny_pure ?_) | skip)
  refine wpAny_bind (wpAny_sequenceKey (T := "tuple") ht.typeIs (by decide) ?_)
  refine wpAny_bind (wpAny_callSpecial?_slot (name := "__getitem__") ht.typeIs PyProof.Rows.slot_tuple_getitem (wpAny_call_entry PyProof.Rows.slot_tuple_getitem ht.typeIs PyProof.Rows.entry_tuple_getitem ?_ (PyProof.Rows.args_tuple_getitem _ _)))
  show wpAny _ _ (PySem.Builtin.Tuple.tupleItemsOf (.ref t) >>= _) _ _ s
  refine wpAny_bind (PyProof.Rows.tupleItemsOf_ ht (wpAny_bind (wpAny_typeOf hT ?_)))
  rw [if_pos (by decide)]
  refine wpAny_bind (back_applied hs ps ?_)
  show wpAny _ _ (if ((((items.size : Nat) : Int) - 1 == 0 && (-1 : Int) == 1) && items.size == items.size) = true then _ else _) _ _ s
  rw [if_neg (by simp), back_pick]
  first
    | exact wpAny_bind (m := PySem.Builtin.Tuple.tupleExact _) (wpAny_newObj_type (wpAny_pure ⟨_, rfl, wpAny_pure h⟩) hk)
    | exact wpAny_bind (m := PySem.Builtin.Tuple.tupleExact _) (wpAny_newObj_type (wpAny_bind (wpAny_pure (wpAny_pure ⟨_, rfl, wpAny_pure h⟩))) hk)
    | exact wpAny_bind (wpAny_bind (m := PySem.Builtin.Tuple.tupleExact _) (wpAny_newObj_type (wpAny_pure (wpAny_pure ⟨_, rfl, wpAny_pure h⟩)) hk))
    | exact wpAny_bind (wpAny_bind (m := PySem.Builtin.Tuple.tupleExact _) (wpAny_newObj_type (wpAny_pure ⟨_, rfl, wpAny_pure h⟩) hk))
end
section
variable {X : Cx} {W : WX} {e : Expr} {te : TE} {t : XE} {pos : Pos}
abbrev tBack (K : PySem.W.Frag) (te : TE) : TE := fun σ H Q => te σ H fun x H1 => ∃ a xs, x = .ref a ∧ SqT K H1 a xs ∧ ∀ p, H1 p = none → Q (.ref p) (upd H1 p (.tup xs.reverse))
theorem pe_back {k : Nat} {p1 p2 p3 : Pos} (he : PE X e te) : PE X (.Subscript e (.Slice none none (some (.UnaryOp .USub (.Constant (.int 1) k p1) p2)) p3) pos) (tBack X.K te) := by
  refine ⟨fun pins s σ H Q I h => Subscript_ (thn (he.run pins s σ H _ I h) fun v s1 ⟨x, H1, I1, r1, a, xs, ex, hx, q⟩ => ?_)⟩
  subst ex
  cases r1
  have one : PO X (some (.UnaryOp .USub (.Constant (.int 1) k p1) p2)) (tPart (tUn (rU fun j => .int (-j)) (tC (.int 1)))) := po_some (pe_un un_neg pe_int)
  refine wpAny_Slice (thn (po_none.run pins s1 σ H1 (fun o H2 => o = none ∧ H2 = H1) I1 ⟨rfl, rfl⟩) fun lo s2 ⟨l, H2, I2, pl, el, e2⟩ => ?_)
  subst el; subst e2
  refine thn (po_none.run pins s2 σ H2 (fun o H3 => o = none ∧ H3 = H2) I2 ⟨rfl, rfl⟩) fun up s3 ⟨u, H3, I3, pu, eu, e3⟩ => ?_
  subst eu; subst e3
  refine thn (one.run pins s3 σ H3 (fun o H4 => o = some (-1) ∧ H4 = H3) I3 ⟨1, rfl, -1, rfl, rfl, rfl⟩) fun sp s4 ⟨o, H4, I4, ps, eo, e4⟩ => ?_
  subst eo; subst e4
  cases pl
  cases pu
  have I5 : Inv X pins σ H4 { s4 with heap := s4.heap.push { cls := .type "slice", data := .fields #[.none, .none, sp] } } := I4.kept (t' := s4.toks) fun b ob q => Heap.get?_push_of_some _ q
  obtain ⟨its, r, ht, hz⟩ := I5.tuple hx
  have hl : its.length = xs.length := r.length.symm
  show wpAny (model X.prog X.w) X.A (subscriptTail e (.Slice none none (some (.UnaryOp .USub (.Constant (.int 1) k p1) p2)) p3) (.ref a) (.ref s4.heap.objs.size)) (EP X pins σ Q) X.xe { s4 with heap := s4.heap.push { cls := .type "slice", data := .fields #[.none, .none, sp] } }
  refine tail_any (T := "tuple") (ops := [.ref a, .ref s4.heap.objs.size]) ht.typeIs PyProof.Rows.slot_tuple_getitem.lookup ?_ (by with_unfolding_all rfl)
  refine back_item ht (Heap.IsSliceOf.new _ .none .none sp) ps ?_ (by rw [List.size_toArray, hl]; exact hz)
  have hz2 : xs.reverse.length ≤ sizeLine := by rw [List.length_reverse]; exact hz
  exact ⟨.ref _, _, I5.laid (t' := s4.toks) (o := .tup xs.reverse) (fun b ob q => Heap.get?_push_of_some _ q) (Nat.le_refl _) ⟨hz2, _, r.reverse, IsTup.new _ _⟩, rfl, q _ (I5.hok.fresh (Nat.le_refl _))⟩
theorem rvs_rev {K : PySem.W.Frag} {G : Hp} : ∀ {vs : List V} {ys : List Y}, RVs K G vs ys → RVs K G vs.reverse ys.reverse
  | _, _, .nil => .nil
  | _, _, .cons h q => by rw [List.reverse_cons, List.reverse_cons]; exact RVs.app (rvs_rev q) (.cons h .nil)
abbrev xBack (t : XE) : XE := fun r m F P => t r m (fun y m1 => ∃ ds, y = .d (.tuple ds) ∧ F (.d (.tuple ds.reverse)) m1) P
theorem de_back {k : Nat} {p1 p2 p3 : Pos} (he : DE X W e t) : DE X W (.Subscript e (.Slice none none (some (.UnaryOp .USub (.Constant (.int 1) k p1) p2)) p3) pos) (xBack t) := ⟨fun {G r m σ H F P Q} rs rh hx cv cx =>
  se_of (pe_back se_pe) (he.run rs rh hx (fun v y G1 m1 H1 e1 rh1 rv1 ⟨ds, ey, f⟩ => by
    subst ey
    cases rv1 with
    | d q =>
      cases q with
      | tup s1 q1 =>
        have hr := rvs_rev q1.rvs
        rw [← List.map_reverse] at hr
        exact ⟨_, _, rfl, ex_t rh1.sub s1, fun p hp => mkT_ok rh1 hr hp (by unfold mkT; rw [allD_map]; exact f) (cv.mono e1)⟩) cx)⟩
end
end Dl
/-! D24: tuple * 0, tuple * 1. -/
namespace Dl
open PySem PySem.Spec PyProof.Rows L2 Evl
theorem times1W (a : Addr) (items : Array Value) (n : Nat) (od : Option Addr) (slots : Array (Option Value)) (u : Tok) :
    Meets (PySem.Builtin.«tuple.__mul__» ⟨[.ref a, .int 1 u], []⟩) (fun _ R s => s.heap.get? a = some ⟨.type "tuple", od, .seq items n, slots⟩ ∧ R (.ok (.ret (Value.ref a))) s) :=
  .of_wp fun prog w A R s q => by
    obtain ⟨hq, gq, dq, tq, oq⟩ := s
    have at_a := q.1
    have ix := AutoSeq1.idx_int
    wp_walk using wpAny_loadPart' at_a
    exact ⟨_, rfl, q.2⟩
theorem times0W (a : Addr) (items : Array Value) (n : Nat) (od : Option Addr) (slots : Array (Option Value)) (u : Tok) (h0 : items.isEmpty = false) :
    Meets (PySem.Builtin.«tuple.__mul__» ⟨[.ref a, .int 0 u], []⟩) (fun _ R s => s.heap.get? a = some ⟨.type "tuple", od, .seq items n, slots⟩ ∧ R (.ok (.ret (Value.ref s.heap.objs.size))) { s with heap := s.heap.push { cls := .type "tuple", data := .seq #[] }, toks := s.toks }) :=
  .of_wp fun prog w A R s q => by
    obtain ⟨hq, gq, dq, tq, oq⟩ := s
    have at_a := q.1
    have ix := AutoSeq1.idx_int
    wp_walk using wpAny_loadPart' at_a
    exact ⟨_, rfl, q.2⟩
section
variable {X : Cx}
abbrev rTimes (K : PySem.W.Frag) : R2 := fun x y H Q => ∃ l k xs, x = .ref l ∧ y = .int k ∧ SqT K H l xs ∧ xs ≠ [] ∧ ((k = 1 ∧ Q (.ref l) H) ∨ (k = 0 ∧ ∀ p, H p = none → Q (.ref p) (upd H p (.tup []))))
theorem op_times : OpR X (binaryOp .Mult) (rTimes X.K) := by
  intro ps s τ H x y v u Q I rx ry want
  obtain ⟨l, k, xs, rfl, rfl, hT, hne, h⟩ := want
  cases rx
  obtain ⟨t, rfl⟩ := ry
  obtain ⟨its, r, ⟨⟨oc, dd, od, sl⟩, ho, hc, n, hd⟩, _⟩ := I.tuple hT
  simp only at hc hd
  subst hc; subst hd
  have some_ : its.toArray.isEmpty = false := by
    cases r with
    | nil => exact absurd rfl hne
    | cons _ _ => rfl
  rcases h with ⟨rfl, q⟩ | ⟨rfl, q⟩
  · exact wpAny_binaryOp_repeat_ref (T := "tuple") (U := "int") (by decide) ⟨_, ho, rfl⟩ (fun s' => typeIs_int s' 1 t) noFill_tuple_mul F.fills_int_mul F.slot_int_rmul repeat_tuple F.slot_int_index.lookup
      (call_meets F.slot_int_rmul (typeIs_int s 1 t) F.entry_int_rmul (F.args_int_rmul_2 _ _) (int_rmul_tuple 1 t l its.toArray n dd sl)
        ⟨ho, rfl, ⟨_, ho, rfl⟩, call_meets F.slot_tuple_mul ⟨_, ho, rfl⟩ F.entry_tuple_mul (F.args_tuple_mul_2 _ _) (times1W l its.toArray n dd sl t) ⟨ho, .ref l, H, I, rfl, q⟩⟩)
  · refine wpAny_binaryOp_repeat_ref (T := "tuple") (U := "int") (by decide) ⟨_, ho, rfl⟩ (fun s' => typeIs_int s' 0 t) noFill_tuple_mul F.fills_int_mul F.slot_int_rmul repeat_tuple F.slot_int_index.lookup
      (call_meets F.slot_int_rmul (typeIs_int s 0 t) F.entry_int_rmul (F.args_int_rmul_2 _ _) (int_rmul_tuple 0 t l its.toArray n dd sl)
        ⟨ho, rfl, ⟨_, ho, rfl⟩, call_meets F.slot_tuple_mul ⟨_, ho, rfl⟩ F.entry_tuple_mul (F.args_tuple_mul_2 _ _) (times0W l its.toArray n dd sl t some_) ⟨ho, ?_⟩⟩)
    exact ⟨.ref s.heap.objs.size, _, I.laid (t' := s.toks) (o := .tup []) (fun b ob q => Heap.get?_push_of_some _ q) (Nat.le_refl _) ⟨Nat.zero_le _, _, .nil, IsTup.new _ _⟩, rfl, q _ (I.hok.fresh (Nat.le_refl _))⟩
/-- a tuple once or not at all -/
abbrev xTimes : XR := fun y z m F => ∃ d ds k, y = .d (.tuple (d :: ds)) ∧ z = .d (.int k) ∧ ((k = 1 ∧ F (.d (.tuple (d :: ds))) m) ∨ (k = 0 ∧ F (.d (.tuple [])) m))
theorem opd_times : OpD X (binaryOp .Mult) xTimes := ⟨_, op_times, fun {G m H v w y z F Q} rh rv rw hx cv => by
  obtain ⟨d, ds, k, rfl, rfl, f⟩ := hx
  cases rw.int
  have rv' := rv
  cases rv with
  | d q =>
    cases q with
    | tup s1 q1 =>
      refine ⟨_, k, _, rfl, rfl, ex_t rh.sub s1, ?_, ?_⟩
      · cases q1 with
        | cons _ _ => exact fun z => nomatch z
      · rcases f with ⟨rfl, f⟩ | ⟨rfl, f⟩
        · exact .inl ⟨rfl, cv.at rh rv' f⟩
        · exact .inr ⟨rfl, fun p hp => mkT_ok rh (vs := []) (ys := []) .nil hp f cv⟩⟩
end
end Dl
/-! D25: list.count of data, comprehensions over a range with a test. -/
namespace Dl
open PySem PySem.Spec PyProof.Rows L2 Evl PySem.W
section
variable {X : Cx} {K : PySem.W.Frag} {G H : Hp} {m : Mu}
/-- l.count(x) of data -/
abbrev xCntD : XRM := fun y ys m F => ∃ ds d, y = .d (.list ds) ∧ ys = [.d d] ∧ PyData.plainAll ds = true ∧ d.plain = true ∧ PyData.hasDictAll ds = false ∧ d.hasDict = false ∧ d.depth ≤ 20 ∧ F (.d (.int ((ds.countP fun y => PyData.eqv y d : Nat) : Int))) m
theorem md_countD (hu : X.A.units + 64 < cLine) : MtD X "list.count" xCntD := by
  refine ⟨fun x xs H Q => ∃ l ys y ds d, x = .ref l ∧ xs = [y] ∧ SqL X.K H l ys ∧ DaAll X.K H ys ds ∧ Da X.K H y d ∧ PyData.plainAll ds = true ∧ d.plain = true ∧ PyData.hasDictAll ds = false ∧ d.hasDict = false ∧ d.depth ≤ 20 ∧ Q (.int ((ds.countP fun y => PyData.eqv y d : Nat) : Int)) H, ?_, fun {G m H v y vs ys F Q} rh rv rvs hx cv => ?_⟩
  · intro pins s σ H x xs v us Q I rx rxs ⟨l, ys, y, ds, d, ex, exs, hl, h1, h2, p1, p2, n1, n2, hd, q⟩
    subst ex exs
    cases rx
    obtain ⟨u, rfl, ru⟩ := rxs.one
    obtain ⟨its, rv, e, hlen⟩ := I.list hl
    obtain ⟨as, rs⟩ := DaAll.reads I n1 h1 rv
    obtain ⟨bs, rx⟩ := Da.reads I n2 h2 ru
    exact SeqAt.count_list_data (vs := its.toArray) e.isList (by simpa using rs) rx p1 p2 (by omega) ⟨.int _, H, I.tok _, ⟨s.toks, rfl⟩, q⟩
  · obtain ⟨ds, d, rfl, rfl, p1, p2, n1, n2, hd, f⟩ := hx
    obtain ⟨w, rfl, rw⟩ := rvs1 rvs
    obtain ⟨p, vs, rfl, s1, q1⟩ := rv.lst
    exact ⟨p, vs, w, ds, d, rfl, rfl, .inl (rd_sub rh s1), q1.mono rh.sub, rw.da.mono rh.sub, p1, p2, n1, n2, hd, cv.at rh (.d (.int _)) f⟩
end
section
variable {r : Ro} {m : Mu} {F : Y → Mu → Prop} {g : XG} {tt : XT} {te : XE} {vs : List Nat}
theorem lc_rngO (f : Nat → Option PyData) {n : Nat} (hn : n ≤ 10000)
    (ht : ∀ i M, i < n → Mle m M → ∀ (C : Y → Mu → Prop) (N : Mu → Prop), (∀ d M', f i = some d → Mle M M' → C (.d d) M') → (∀ M', f i = none → Mle M M' → N M') → g (.d (.int (0 + (i : Int)))) (wipeR r vs) M (fun r2 M2 => tt r2 M2 (fun b M3 => if b = true then te r2 M3 C P0 else N M3) P0))
    (hf : ∀ m', Mle m m' → F (.d (.list ((List.range n).filterMap f))) m') : LcZ finD (wkRange 0 n) g tt te vs r m F := by
  refine lc_go (k := wkRange 0 n) (fun i => (f i).map Y.d) hn (fun _ _ => trivial) (fun i M hi hM C N hC hN => ht i M hi hM C N (fun d M' e hM' => hC _ M' (by show (f i).map Y.d = _; rw [e]; rfl) hM') (fun M' e hM' => hN M' (by show (f i).map Y.d = _; rw [e]; rfl) hM')) (fun D M hD hM => ?_)
  have ek : (List.range n).filterMap (fun i => (f i).map Y.d) = ((List.range n).filterMap f).map Y.d := by rw [List.map_filterMap]
  have hM' : Mle (mu m D (.lst ((List.range n).filterMap fun i => (f i).map Y.d))) M := hM
  show finD D ((List.range n).filterMap _) M F
  rw [ek] at hM' ⊢
  exact fin_d _ rfl hD hM' hf
end
end Dl
/-! D26: enumerate of a tuple; t[:n]. -/
namespace Dl
open PySem PySem.Spec PyProof.Rows L2 Evl
open AutoSeq1 (wpAny_loadPart')
theorem cut_to {α : Type} (xs : List α) (n : Nat) : cutD xs none (some (n : Int)) = xs.take n := by
  unfold cutD
  rw [HT.sIx_nat, show HT.sIx xs.length 0 none = 0 from rfl, List.drop_zero, Nat.sub_zero]
  rcases Nat.le_total n xs.length with h | h
  · rw [Nat.min_eq_left h]
  · rw [Nat.min_eq_right h, List.take_of_length_le h, List.take_of_length_le (Nat.le_refl _)]
/-- the walker of a tuple, as it is made -/
abbrev tupWk (l : Addr) : Obj := { cls := .type "tuple_iterator", data := .fields #[.ref l, .int 0 0] }
/-- the walker in pairs -/
abbrev enWk (b : Addr) : Obj := { cls := .type "enumerate", data := .fields #[.none, .bool false, .ref b, rawInt 0, .none, .none] }
theorem enT_new (l : Addr) (xs : Array Value) : Meets (Builtin.«enumerate.__new__» ⟨[.type "enumerate", .ref l], []⟩) fun _ R s => s.heap.IsTuple l xs ∧ R (.ok (.ret (.ref (s.heap.push (tupWk l)).objs.size))) { s with heap := (s.heap.push (tupWk l)).push (enWk s.heap.objs.size) } := .of_wp fun prog w A R s h => by
  obtain ⟨hp, g, d, tk, os⟩ := s
  obtain ⟨⟨⟨c0, d0, e0, f0⟩, q1, q2, n, q3⟩, h⟩ := h
  have q2' : c0 = .type "tuple" := q2
  have q3' : e0 = .seq xs n := q3
  subst q2' q3'
  have hs := sub_enumerate
  have hT : Heap.IsTuple (Shared.heap ⟨hp, g, d, tk, os⟩) l xs := ⟨_, q1, rfl, n, rfl⟩
  have q1' : Heap.get? (Shared.heap ⟨hp, g, d, tk, os⟩) l = some { cls := .type "tuple", dict := d0, data := .seq xs n, slots := f0 } := q1
  wp_walk using wpAny_loadPart' q1'
  refine wpAny_stack_any fun st => wpAny_pure ?_; split
  · rename_i c _ _ _ _ _; cases (c == Value.type "enumerate")
    · wp_walk using wpAny_loadPart' q1', wpAny_pyIter_tuple hT; exact ⟨_, rfl, h⟩
    · wp_walk using wpAny_loadPart' q1', wpAny_pyIter_tuple hT; exact ⟨_, rfl, h⟩
  · wp_walk using wpAny_loadPart' q1', wpAny_pyIter_tuple hT; exact ⟨_, rfl, h⟩
section
variable {prog : Program} {w : World} {A : Around} {E : Value → Shared → Prop} {s : Shared}
theorem enT_call {l : Addr} {xs : Array Value} {Q : Value → Shared → Prop} (hL : s.heap.IsTuple l xs)
    (h : ∀ h', IsEnum h' (s.heap.objs.size + 1) s.heap.objs.size 0 .none → h'.IsTupleIter s.heap.objs.size l 0 → (∀ b o, s.heap.get? b = some o → h'.get? b = some o) → Q (.ref (s.heap.objs.size + 1)) { s with heap := h' }) : wpAny (model prog w) A (call (.type "enumerate") [.ref l]) Q E s := by
  refine callType_new F.called_enumerate (by decide) (F.typeCall_enumerate_1 _) (F.newCall_enumerate_1 _) (fun obj => F.args_object_init_2 obj _) F.entry_enumerate_new (enT_new l xs) ⟨hL, ?_⟩
  have z : (s.heap.push (tupWk l)).objs.size = s.heap.objs.size + 1 := Heap.size_push ..
  have e0 := Heap.get?_push_size (s.heap.push (tupWk l)) (o := enWk s.heap.objs.size) rfl
  rw [z] at e0
  show _ ∧ _
  rw [z]
  exact ⟨⟨_, e0, rfl⟩, h _ e0 ⟨_, Heap.get?_push_of_some _ (Heap.get?_push_size _ rfl), rfl, rfl⟩ fun b o x => Heap.get?_push_of_some _ (Heap.get?_push_of_some _ x)⟩
end
/-- the tuple at a, each item in a new pair -/
def IteT (K : PySem.W.Frag) (a : Addr) : It :=
  ⟨fun i H => ∃ (xs : List V) (x : V), SqT K H a xs ∧ xs[i]? = some x, fun i H v H' => ∃ T x, v = .ref T ∧ H T = none ∧ H' = upd H T (.tup [.int (i : Nat), x]) ∧ ∀ xs, SqT K H a xs → xs[i]? = some x, fun i H => ∃ xs : List V, SqT K H a xs ∧ xs.length ≤ i⟩
theorem turn_enT {P : Program} {w : World} {K : PySem.W.Frag} {elts : List Expr} {kk : Nat} {tpos : Pos} (a e b : Addr) :
    Turn P w K (.Tuple elts kk tpos) (IteT K a) [e, b] e (fun i h => (∃ old, IsEnum h e b ((i : Nat) : Int) old) ∧ h.IsTupleIter b a i ∧ e ≠ b ∧ a ≠ b ∧ a ≠ e) where
  mem := by simp
  obj := fun i h st c hc => by
    obtain ⟨⟨old, he⟩, ⟨o, ho, h1, h2⟩, _⟩ := st
    rcases (show c = e ∨ c = b by simpa using hc) with z | z
    · rw [z]; exact ⟨_, he, fun v q => nomatch q⟩
    · rw [z]; exact ⟨o, ho, fun v q => by rw [h2] at q; cases q⟩
  keep := fun i h h' st k => by
    obtain ⟨⟨old, he⟩, h1, h2⟩ := st
    exact ⟨⟨old, k e (by simp) _ he⟩, h1.at fun o q => k b (by simp) o q, h2⟩
  item := by
    intro X hP hw hK hc i pins s σ H E I hf st hg
    subst hP hw hK
    obtain ⟨⟨old, he⟩, h1, n1, n2, n3⟩ := st
    obtain ⟨xs, x, hq, hx⟩ := hg
    obtain ⟨its, rv, p, _⟩ := I.tuple hq
    obtain ⟨u, hu, ru⟩ := rv.get hx
    have le : e < s.heap.objs.size := Heap.lt_size he
    have lb : b < s.heap.objs.size := by obtain ⟨_, q, _⟩ := h1; exact Heap.lt_size q
    have hi : i < its.toArray.size := by
      have : i < its.length := by rw [← rv.length]; exact (List.getElem?_eq_some_iff.mp hx).1
      simpa using this
    refine wpAny_pyNext_enum_itemD (Draws.tuple (A := X.A.in1) (I.ok.hd hc) b a n2 its.toArray) he ⟨h1, p⟩ hi n1 (by simp only [List.mem_cons, List.not_mem_nil, or_false, not_or]; exact ⟨n1, Ne.symm n3⟩) fun y h' tk hy ho hs hT hz hk => ?_
    have hy' : y = u := by
      have e1 : its[i]? = some y := by simpa using hy
      rw [hu] at e1; exact (Option.some.inj e1).symm
    subst hy'
    refine ⟨_, rfl, wpAny_letOwnedTupleGo_enum (s := { s with heap := h', toks := tk + 1 }) ho fun h2 he2 sb => ?_⟩
    have hT2 : h2.get? s.heap.objs.size = some { cls := .type "tuple", data := .seq #[.int i tk, y] } := (sb.2 _ (Nat.ne_of_gt le)).trans hT
    have new : ObjOk X.prog X.w (upd H s.heap.objs.size (.tup [.int (i : Nat), x])) h2 s.heap.objs.size (.tup [.int (i : Nat), x]) := ⟨Nat.le_of_ble_eq_true rfl, [.int i tk, y], .cons ⟨_, rfl⟩ (.cons ru .nil), _, hT2, rfl, _, rfl⟩
    have I1 : Inv X pins σ (upd H s.heap.objs.size (.tup [.int (i : Nat), x])) { s with heap := h2, toks := tk + 1 } := I.turnedNew (ch := [e, b]) (fun c ob hb q => (sb.2 c (fun z => hb (by rw [z]; simp))).trans (hk c ob (fun z => hb (by rw [z]; simp)) (fun z => hb (by rw [z]; simp)) q)) hf (Nat.le_refl _) new
    refine ⟨.ref s.heap.objs.size, _, I1, rfl, ⟨_, x, rfl, I.hok.fresh (Nat.le_refl _), rfl, fun ys hy => by rw [I.tuple_inj hy hq]; exact hx⟩, ⟨⟨y, ?_⟩, hs.1.at fun o q => (sb.2 b (Ne.symm n1)).trans q, n1, n2, n3⟩, fun c hb => ?_⟩
    · rw [show ((i + 1 : Nat) : Int) = (i : Int) + 1 by omega]; exact he2
    · have lc : c < s.heap.objs.size := by
        rcases (show c = e ∨ c = b by simpa using hb) with z | z
        · exact z ▸ le
        · exact z ▸ lb
      rw [upd_ne (Nat.ne_of_lt lc)]; exact (hf c hb).1
  done := by
    intro X hP hw hK hc i pins s σ H E I hf st hg
    subst hP hw hK
    obtain ⟨⟨old, he⟩, h1, n1, n2, n3⟩ := st
    obtain ⟨xs, hq, hx⟩ := hg
    obtain ⟨its, rv, p, _⟩ := I.tuple hq
    have hn : its.toArray[i]? = none := by
      have := rv.length
      simp; omega
    have D : Draws X.prog X.w X.A.in1 b [b, a] i (fun _ _ => True) (fun j h => j = i ∧ h.IsTupleIter b a i ∧ h.IsTuple a its.toArray) := {
      live := fun _ _ st => let ⟨o, ho, _⟩ := st.2.1; ⟨o, ho⟩
      frame := fun _ _ _ st hk => ⟨st.1, st.2.1.at fun o e => hk b (by simp) o e, st.2.2.at fun o e => hk a (by simp) o e⟩
      item := fun j _ _ _ hj st _ => absurd st.1 (Nat.ne_of_lt hj)
      done := fun s2 Q2 E2 st hE => wpAny_nextOf_tuple_end (A := X.A.in1) (I.ok.hd hc) st.2.1 st.2.2 hn hE }
    obtain ⟨f0, f1, f2, f3, f4, f5⟩ := hf b (by simp)
    exact wpAny_pyNext_enum_endD D he ⟨rfl, h1, p⟩ fun h' eb => ⟨rfl, I.turned (t' := s.toks) (fun c o hb q => eb c o hb q) f0 f1 f3 f4 f5⟩
  self := fun A i s Q E st h => by
    obtain ⟨⟨_, he⟩, _⟩ := st
    exact wpAny_pyIter_enum he h
def iEnT (K : PySem.W.Frag) (ta : TA) : TI := fun σ H R => ta σ H fun vs H1 => ∃ a xs, vs = [.ref a] ∧ SqT K H1 a xs ∧ R (IteT K a) H1
theorem pi_enT {X : Cx} {e : Expr} {ta : TA} {p pos tpos : Pos} {elts : List Expr} {kk : Nat} (hg : Gl X "enumerate") (hm : X.mg "enumerate" = none) (ha : PA X [e] ta) (hs : starEach [e] X.env = [(false, eval e X.env)] := by rfl) :
    PI X (.Tuple elts kk tpos) (.Call (.Name "enumerate" p) [e] [] pos) (iEnT X.K ta) := by
  refine ⟨fun pins s σ H R I h => Call_ (ld_blt I hg hm boot_enumerate (PyProof.Rows.callWith_type1 (thn (ha.run pos pins s σ H _ I h) fun us s1 ⟨vs, H1, I1, r1, a, xs, ex, hq, q⟩ => ?_) hs rfl))⟩
  subst ex
  cases r1 with
  | cons r rr =>
    cases rr; cases r
    obtain ⟨its, rv, p', hz⟩ := I1.tuple hq
    refine enT_call p' fun h' he hit hk => wpAny_pyIter_enum he ?_
    have la : a < s1.heap.objs.size := by obtain ⟨_, q, _⟩ := p'; exact Heap.lt_size q
    refine ⟨s1.heap.objs.size + 1, [s1.heap.objs.size + 1, s1.heap.objs.size], _, _, H1, rfl, I1.kept (t' := s1.toks) hk, turn_enT a (s1.heap.objs.size + 1) s1.heap.objs.size, ⟨⟨.none, he⟩, hit, Nat.succ_ne_self _, Nat.ne_of_lt la, Nat.ne_of_lt (Nat.lt_succ_of_lt la)⟩, fun b hb => ?_, q⟩
    have hle : s1.heap.objs.size ≤ b := by
      rcases (show b = s1.heap.objs.size + 1 ∨ b = s1.heap.objs.size by simpa using hb) with z | z
      · exact z ▸ Nat.le_succ _
      · exact Nat.le_of_eq z.symm
    exact I1.fpOk hle (I1.hok.fresh hle)
section
variable {X : Cx} {W : WX} {e : Expr} {pos : Pos} {ta : XA} {K : PySem.W.Frag}
abbrev xiEnT (ta : XA) : XI := fun r m F P => ta r m (fun ys m1 => ∃ ds, ys = [.d (.tuple ds)] ∧ F (wkEnum m1 (.d (.tuple ds)) (ds.map Y.d)) m1) P
theorem di_enT {p tpos : Pos} {elts : List Expr} {kk : Nat} (hg : Gl X "enumerate") (hm : X.mg "enumerate" = none) (ha : DA X W [e] ta) (hs : starEach [e] X.env = [(false, eval e X.env)] := by rfl) :
    DI X W (.Tuple elts kk tpos) (.Call (.Name "enumerate" p) [e] [] pos) (xiEnT ta) := ⟨fun {G r m σ H F P R} rs rh hx cr cx =>
  si_of (pi_enT hg hm sa_pa hs) (ha.run rs rh hx (fun vs ys G1 m1 H1 e1 rh1 rv1 ⟨ds, q1, q3⟩ => by
    subst q1
    obtain ⟨v, rfl, r1⟩ := rvs1 rv1
    obtain ⟨a, vs, rfl, s1, q1⟩ := r1.tup
    have hk : ∀ (m : Mu) (G2 H : Hp), Ex G1 G2 → Rh X.K G2 m H → SqT X.K H a vs ∧ RVs X.K G2 vs (ds.map Y.d) := fun m G2 H e2 rh2 => ⟨ex_t (e2.trans rh2.sub) s1, RVs.mono e2 q1.rvs⟩
    refine ⟨a, vs, rfl, ex_t rh1.sub s1, cr _ _ G1 m1 H1 e1 rh1 ⟨fun i m G2 H e rh s hi => ?_, fun i m G2 H x H' e rh s hi q F Q f cv => ?_, fun m G2 H e rh s => ?_⟩ q3⟩
    · obtain ⟨h1, h2⟩ := hk m G2 H e rh
      have hi' : i < vs.length := by rw [h2.length]; exact hi
      exact ⟨vs, vs[i], h1, by simp [hi']⟩
    · obtain ⟨h1, h2⟩ := hk m G2 H e rh
      obtain ⟨T, x0, rfl, hT, rfl, q2⟩ := q
      obtain ⟨z, hz, f⟩ := f
      obtain ⟨w, hw, rw⟩ := RVs.get h2 hz
      have e3 := q2 vs h1
      rw [hw] at e3; cases e3
      exact mkT_ok rh (.cons (.d (.int _)) (.cons rw .nil)) hT f cv
    · obtain ⟨h1, h2⟩ := hk m G2 H e rh
      exact ⟨vs, h1, by rw [h2.length]; exact Nat.le_refl _⟩) cx)⟩
end
end Dl
/-! D27: tuple += tuple; (a, *t); d.get(k, x); k in d; defs with *args. -/
namespace Dl
open PySem PySem.Spec PyProof.Rows L2 Evl
/-! ### t += u -/
theorem noI_tup : typeLookup (.type "tuple") (dunderI "add") = pure none := by rw [typeLookup_type, builtinLookup_eq_fast]; kernel_rfl
section
variable {prog : Program} {w : World} {A : Around} {E : Value → Shared → Prop} {s : Shared}
theorem icat {B : Value → Value → Prop} {a b : Addr} {S : PySem.Spec} {Q : Value → Shared → Prop} (ha : s.TypeIs (.ref a) "tuple") (hb : s.TypeIs (.ref b) "tuple") (g : Meets (Builtin.«tuple.__add__» ⟨[.ref a, .ref b], []⟩) S) (h : S A (wants Q E) s) : wpAny (model prog w) A (inplaceOp .Add (.ref a) (.ref b)) Q E s :=
  wpAny_inplaceOp_concat ha hb noI_tup noFill_tuple_add seq_tuple_add (call_meets PySem.F.slot_tuple_add ha PySem.F.entry_tuple_add (PySem.F.args_tuple_add_2 _ _) g h)
end
section
variable {X : Cx} {W : WX} {e : Expr} {es : List Expr} {pos : Pos} {t te : XE} {ta : XA} {K : PySem.W.Frag} {G H : Hp} {m : Mu}
theorem iop_catT : PIp X .Add (rCatA X.K) := by
  intro pins s σ H x y v u Q I rx ry h
  obtain ⟨a, b, xs, ys, rfl, rfl, ha, hb, hz, q0, q1, q2⟩ := h
  cases rx
  cases ry
  obtain ⟨its, r1, p1, _⟩ := I.tuple ha
  obtain ⟨its2, r2, p2, _⟩ := I.tuple hb
  obtain ⟨⟨c1, d1, e1, f1⟩, o1, k1, n1, z1⟩ := id p1
  obtain ⟨⟨c2, d2, e2, f2⟩, o2, k2, n2, z2⟩ := id p2
  simp only at k1 z1 k2 z2
  subst k1 z1 k2 z2
  by_cases hx : its = []
  · subst hx
    cases r1
    exact icat (B := fun _ _ => True) ⟨_, o1, rfl⟩ ⟨_, o2, rfl⟩ (tuple_addW0 a b ([] : List Value).toArray its2.toArray n1 n2 d1 d2 f1 f2 (by simp)) ⟨o1, o2, .ref b, H, I, rfl, q0 rfl⟩
  · have hx' : xs ≠ [] := fun z => hx (r1.nil_iff.mpr z)
    by_cases hy : its2 = []
    · exact icat (B := fun _ _ => True) ⟨_, o1, rfl⟩ ⟨_, o2, rfl⟩ (tuple_addW1 a b its.toArray its2.toArray n1 n2 d1 d2 f1 f2 (by simpa using hx) (by simp [hy])) ⟨o1, o2, .ref a, H, I, rfl, q1 hx' (r2.nil_iff.mp hy)⟩
    · refine icat (B := fun _ _ => True) ⟨_, o1, rfl⟩ ⟨_, o2, rfl⟩ (tuple_addW2 a b its.toArray its2.toArray n1 n2 d1 d2 f1 f2 (by simpa using hx) (by simpa using hy) (by rw [List.size_toArray, List.size_toArray, ← r1.length, ← r2.length]; exact hz)) ⟨o1, o2, ?_⟩
      have ee : its.toArray ++ its2.toArray = (its ++ its2).toArray := by simp
      rw [ee]
      refine ⟨.ref s.heap.objs.size, _, I.laid (t' := s.toks) (o := .tup (xs ++ ys)) (fun b ob q => Heap.get?_push_of_some _ q) (Nat.le_refl _) ⟨by rw [List.length_append]; exact hz, _, r1.append r2, IsTup.new _ _⟩, rfl, q2 hx' (fun z => hy (r2.nil_iff.mpr z)) _ (I.hok.fresh (Nat.le_refl _))⟩
abbrev xAugT (i : Nat) (t : XE) : XS := fun D r m => ∃ ds, r[i]? = some (some (.d (.tuple ds))) ∧ t r m (fun y m1 => ∃ es, y = .d (.tuple es) ∧ ds.length + es.length ≤ 10000 ∧ D.nx (r.set i (some (.d (.tuple (ds ++ es))))) m1) (D.at r)
theorem ds_augT {i : Nat} {x : Str} {pos' : Pos} (hN : X.N.Nodup) (hi : X.N[i]? = some x) (hx : Loc X.env.scope x) (he : DE X W e t) (hf : X.fn x = true ∨ X.env.scope.names.lookup x = some .local := by first | exact .inl rfl | exact .inr rfl | assumption) :
    DS X W (.AugAssign (.Name x pos') .Add e pos) (xAugT i t) := ⟨fun {G r m σ H D E} rs rh ⟨ds, q1, q2⟩ f => by
  obtain ⟨w, e1, rv⟩ := rs.get q1
  refine ss_of (ps_aug hN hi hx se_pe iop_catT hf) ⟨w, e1, he.run rs rh q2 (fun v y G1 m1 H1 e2 rh1 rv1 ⟨es, q3, hz, q4⟩ => ?_) (f.cx rs)⟩
  subst q3
  obtain ⟨p, vs, rfl, s1, q5⟩ := (rv.mono e2).tup
  obtain ⟨p2, vs2, rfl, s2, q6⟩ := rv1.tup
  refine ⟨p, p2, vs, vs2, rfl, rfl, ex_t rh1.sub s1, ex_t rh1.sub s2, by rw [q5.length, q6.length]; exact Nat.le_trans hz szl, fun e => ?_, fun e3 e4 => ?_, fun e3 e4 q hq => ?_⟩
  · subst e; cases q5
    exact f.nx _ _ G1 m1 H1 e2 ((rs.mono e2).set rv1 i) rh1 q4
  · subst e4; cases q6
    rw [List.append_nil] at q4
    exact f.nx _ _ G1 m1 H1 e2 ((rs.mono e2).set (rv.mono e2) i) rh1 q4
  · obtain ⟨e5, r5⟩ := rh1.data (o := .tup (vs ++ vs2)) hq
    exact f.nx _ _ _ m1 _ (e2.trans e5) ((rs.mono (e2.trans e5)).set (.d (.tup (.inl (.inl upd_same)) ((q5.app q6).mono e5))) i) r5 q4⟩
/-! ### *e among the items of a display -/
abbrev xStar (te : XE) (t : XA) : XA := fun r m F P => te r m (fun y m1 => ∃ zs, SqY m1 y zs ∧ t r m1 (fun ys m2 => F (zs ++ ys) m2) P) P
theorem da_star {p : Pos} (he : DE X W e te) (hr : DA X W es ta) (hs : starEach (.Starred e p :: es) X.env = (true, eval e X.env) :: starEach es X.env := by rfl) : DA X W (.Starred e p :: es) (xStar te ta) :=
  ⟨fun {G r m σ H F P Q} rs rh hx cv cx => sa_of (StX.pa_star se_pe sa_pa hs) (he.run rs rh hx (fun v y G1 m1 H1 e1 rh1 rv1 ⟨zs, hz, h1⟩ => by
    obtain ⟨p, vs, rfl, s1, q1⟩ := sqY_ok rh1 rv1 hz
    exact ⟨p, vs, rfl, s1.symm, hr.run (rs.mono e1) rh1 h1 (fun us ys G2 m2 H2 e2 rh2 rv2 h2 => cv (vs ++ us) (zs ++ ys) G2 m2 H2 (e1.trans e2) rh2 ((RVs.mono e2 q1).app rv2) h2) (cx.mono e1)⟩) cx)⟩
/-! ### dicts that are data -/
theorem dic_no {x : Str} : ∀ {kvs : List (Key × V)} {ks ds : List PyData}, DaAll K H (kvs.map fun p => kV p.1) ks → DaAll K H (kvs.map fun p => p.2) ds → dGet (ks.zip ds) x = none → valV kvs (Sum.inr x) = none
  | [], _, _, h1, h2, e => rfl
  | (k, v) :: kvs, _, _, h1, h2, e => by
    cases h1 with
    | cons h1 t1 =>
      cases h2 with
      | cons h2 t2 =>
        cases k with
        | inl i =>
          cases h1
          have := dic_no t1 t2 (x := x) (by simpa [dGet] using e)
          unfold valV at this ⊢
          rw [List.find?_cons_of_neg (by simp)]
          exact this
        | inr z =>
          cases h1
          by_cases hz : z = x
          · subst hz
            simp [dGet] at e
          · have := dic_no t1 t2 (x := x) (by simpa [dGet, hz] using e)
            unfold valV at this ⊢
            rw [List.find?_cons_of_neg (by simpa using hz)]
            exact this
theorem dic_dg {v : V} {es : List (PyData × PyData)} {x : Str} (rh : Rh K G m H) (rv : RV K G v (.d (.dict es))) : ∃ a o, v = .ref a ∧ DGet H a (.str x) o ∧ (match o, dGet es x with | some u, some d => Da K G u d | none, none => True | _, _ => False) := by
  cases rv with
  | d q =>
    cases q with
    | dic r k1 k2 eq =>
      subst eq
      refine ⟨_, _, rfl, .inl ⟨_, Sum.inr x, rd_sub rh r, rfl, rfl⟩, ?_⟩
      cases e : dGet _ x with
      | none => rw [dic_no k1 k2 e]; trivial
      | some d =>
        obtain ⟨u, g1, g2⟩ := dic_get k1 k2 e
        rw [g1]; exact g2
/-- d.get(k, x) -/
abbrev xGet2 (td te tf : XE) : XE := fun r m F P => td r m (fun y m1 => ∃ es, y = .d (.dict es) ∧ te r m1 (fun z m2 => tf r m2 (fun v m3 => ∃ x d, z = .d (.str x) ∧ v = .d d ∧ F (.d ((dGet es x).getD d)) m3) P) P) P
theorem de_get2 {o e f : Expr} {apos cpos : Pos} {td te tf : XE} (hu : X.A.units + 64 < cLine) (ho : DE X W o td) (he : DE X W e te) (hf : DE X W f tf) (m2 : M2 X o "get" apos e f cpos) : DE X W (.Call (.Attribute o "get" apos) [e, f] [] cpos) (xGet2 td te tf) := ⟨fun {G r m σ H F P Q} rs rh hx cv cx =>
  se_of (pe_dget2 (by omega) se_pe se_pe se_pe m2) (ho.run rs rh hx (fun v y G1 m1 H1 e1 rh1 rv1 ⟨es, q1, q2⟩ => by
    subst q1
    have isd : ∃ a, v = .ref a ∧ IsD H1 a := by
      cases rv1 with
      | d q => cases q with | dic r0 k1 k2 eq => exact ⟨_, rfl, .inl ⟨_, rd_sub rh1 r0⟩⟩
    obtain ⟨a, rfl, hd⟩ := isd
    refine ⟨a, rfl, hd, he.run (rs.mono e1) rh1 q2 (fun v2 z G2 m2 H2 e2 rh2 rv2 q3 => hf.run (rs.mono (e1.trans e2)) rh2 q3 (fun v3 z3 G3 m3 H3 e3 rh3 rv3 ⟨x, d, q4, q5, q6⟩ => ?_) (cx.mono (e1.trans e2))) (cx.mono e1)⟩
    subst q4 q5
    obtain ⟨a', o, ea, g, eo⟩ := dic_dg (x := x) rh3 ((rv1.mono e2).mono e3)
    cases ea
    have rk := rv2.mono e3
    cases rk.str
    refine ⟨o, g, ?_⟩
    have cv' := cv.mono ((e1.trans e2).trans e3)
    cases o with
    | none =>
      cases e2' : dGet es x with
      | none => rw [e2'] at q6; exact cv'.at rh3 rv3 q6
      | some d => rw [e2'] at eo; exact eo.elim
    | some u =>
      cases e2' : dGet es x with
      | none => rw [e2'] at eo; exact eo.elim
      | some d => rw [e2'] at eo q6; exact cv'.at rh3 (.d eo) q6) cx)⟩
end
section
variable {X : Cx}
/-- x in d, d a dict that is data -/
abbrev xInDd (neg : Bool) : XR := fun y z m F => ∃ es x, y = .d (.str x) ∧ z = .d (.dict es) ∧ F (.d (.bool (if neg then !(dGet es x).isSome else (dGet es x).isSome))) m
theorem dic_some {K : PySem.W.Frag} {G : Hp} {o : Option V} {q : Option PyData} (e : match o, q with | some u, some d => Da K G u d | none, none => True | _, _ => False) : o.isSome = q.isSome := by
  cases o <;> cases q <;> first | rfl | exact e.elim
theorem opd_inDd (hu : X.A.units + 64 < cLine) : OpD X (compareOp .In) (xInDd false) := by
  refine ⟨fun x y H Q => ∃ a o, y = .ref a ∧ DGet H a x o ∧ Q (.bl o.isSome) H, ?_, fun {G m H v w y z F Q} rh rv rw hx cv => ?_⟩
  · intro pins s σ H x y v u Q I rx ry ⟨a, o, ey, g, q⟩
    subst ey
    cases ry
    exact L2.d_in (by omega) I g rx fun s' I' => ⟨.bl o.isSome, H, I', rfl, q⟩
  · obtain ⟨es, x, rfl, rfl, f⟩ := hx
    obtain ⟨a, o, rfl, g, e⟩ := dic_dg (x := x) rh rw
    cases rv.str
    exact ⟨a, o, rfl, g, by rw [dic_some e]; exact cv.at rh (.d (.bl _)) f⟩
theorem opd_notinDd (hu : X.A.units + 64 < cLine) : OpD X (compareOp .NotIn) (xInDd true) := by
  refine ⟨fun x y H Q => ∃ a o, y = .ref a ∧ DGet H a x o ∧ Q (.bl (!o.isSome)) H, ?_, fun {G m H v w y z F Q} rh rv rw hx cv => ?_⟩
  · intro pins s σ H x y v u Q I rx ry ⟨a, o, ey, g, q⟩
    subst ey
    cases ry
    exact L2.d_notIn (by omega) I g rx fun s' I' => ⟨.bl (!o.isSome), H, I', rfl, q⟩
  · obtain ⟨es, x, rfl, rfl, f⟩ := hx
    obtain ⟨a, o, rfl, g, e⟩ := dic_dg (x := x) rh rw
    cases rv.str
    exact ⟨a, o, rfl, g, by rw [dic_some e]; exact cv.at rh (.d (.bl _)) f⟩
end
/-! ### a comprehension within a comprehension -/
abbrev sEnv (sc : Scope) : Env := { scope := sc, locals := 0, globals := 0, cells := [] }
theorem blkOk_r {N : List Str} {o scope : Scope} {env : Env} {own : List (Str × Nat)} (sc0 : Scope) (e : relabel o env = relabel o (sEnv sc0)) (h : blkC N (relabel o (sEnv sc0)) scope own = true) : BlkOk N (relabel o env) scope own := by
  rw [e]; exact blkOk_by h
/-! ### def f(*v) -/
section
variable {pr : Program} {w : World} {K : PySem.W.Frag} {mg : Str → Option Value} {base : Heap}
/-- the def at f keeps the promise d, however many arguments there are -/
structure FnV (pr : Program) (w : World) (K : PySem.W.Frag) (mg : Str → Option Value) (base : Heap) (k : Nat) (f : Addr) (d : DSp) : Prop where
  run : ∀ (A : Around) (outer : List Env) (s : Shared) (H : Hp) (us : List Value) (vs : List V) (Q : VK) (E : XK), A.guards = some [] → Room k A → Env0 pr w K mg base A outer s H → Vals vs us → cz K d vs H Q E → codeAny (model pr w) A (.call (.ref f) ⟨us, []⟩) (CR (L2.CX pr w) outer pr w H s Q E) s
theorem FnV.mono {j k : Nat} {f : Addr} {d : DSp} (F : FnV pr w K mg base j f d) (h : j ≤ k) : FnV pr w K mg base k f d := ⟨fun A outer s H us vs Q E hg hr => F.run A outer s H us vs Q E hg (hr.mono h)⟩
theorem Fun.dokV {x qual pv : Str} {st : Stmt} {f : Addr} {fd : FuncData} {N : List Str} {k : Nat} {d : DSp} (F : Fun K x qual st f fd) (S : FnScope N [pv] (defScope st)) (t : XS)
    (hbind : ∀ (kV doc pm : Value) (an : Option Addr) (cdv ct : Value) (us : List Value), bindArgs (PySem.W.fnOf x qual (defArgs st) (defBody st) (defScope st) .none kV doc pm an cdv ct) ⟨us, []⟩ = (newTuple us >>= fun t => pure [(pv, t)]))
    (hb : ∀ (cdv : Value) (A : Around) (outer : List Env) (s : Shared) (H : Hp) (E : XK), Bx (cxD pr w K mg base N qual (defScope st) f cdv A outer s H E) (WE1 E) k → PassesOwn (model pr w) (cxD pr w K mg base N qual (defScope st) f cdv A outer s H E).A (cxD pr w K mg base N qual (defScope st) f cdv A outer s H E).env (cxD pr w K mg base N qual (defScope st) f cdv A outer s H E).xe →
      DSs (cxD pr w K mg base N qual (defScope st) f cdv A outer s H E) (WE1 E) (defBody st) t)
    (vc : ∀ ys m F P, d ys m F P → ys.length ≤ 10000 ∧ mkT ys m (fun y m' => t { nx := fun _ m => F (.d .none) m, rt := F, ex := fun c fs _ m => P c fs m } (startY N [y]) m')) : FnV pr w K mg base (k + 1) f d := by
  obtain ⟨oc, od, kV, doc, pm, an, cdv, ct, osl, rfl, lk, hcd⟩ := F.ex
  refine ⟨fun A outer s H us vs Q E hg hr e0 r hsp => ?_⟩
  obtain ⟨G, m, ys, Fy, P, rh, rv, hd, cv, cx⟩ := hsp
  obtain ⟨hl, hvc⟩ := vc ys m Fy P hd
  have lv : vs.length ≤ sizeLine := by rw [rv.length]; exact Nat.le_trans hl szl
  have lu : us.length ≤ sizeLine := by rw [← r.length]; exact lv
  have fresh : H s.heap.objs.size = none := e0.hok.fresh (Nat.le_refl _)
  refine StX.run_bnd lk hcd S hr e0 (G := fun xs H2 => ∃ p, H p = none ∧ xs = [V.ref p] ∧ H2 = upd H p (.tup vs)) (fun A' Ex' Q' h => ?_) fun s2 H2 xs ⟨p, hp, ex, eH⟩ hr' => ?_
  · rw [hbind]
    refine wpAny_bind (wpAny_newTuple (wpAny_pure ?_) lu)
    have new : ObjOk pr w (upd H s.heap.objs.size (.tup vs)) (s.heap.push ({ cls := .type "tuple", data := .seq us.toArray } : Obj)) s.heap.objs.size (.tup vs) := ⟨lv, us, r, _, Heap.get?_push_size _ rfl, rfl, _, rfl⟩
    have un := StX.un_laid (fs := frs outer) (s := s) (o := ({ cls := .type "tuple", data := .seq us.toArray } : Obj)) (u := .tup vs) fresh
    exact h _ _ [V.ref s.heap.objs.size] [Value.ref s.heap.objs.size] (StX.env0_laid e0 new) un rfl (fun e s' => StX.cxUp outer s H _ _ E e s' un (fun b o q => Heap.get?_push_of_some _ q) rfl) (.cons rfl .nil) rfl ⟨_, fresh, rfl, rfl⟩
  · subst ex eH
    obtain ⟨G', m', y, e', rh', rv', hf⟩ := mkT_ok (Q := fun v H2 => ∃ G' m' y, Ex G G' ∧ Rh K G' m' H2 ∧ RV K G' v y ∧ t { nx := fun _ m => Fy (.d .none) m, rt := Fy, ex := fun c fs _ m => P c fs m } (startY N [y]) m') rh rv hp hvc (fun v y G' m' H' e rh rv f => ⟨G', m', y, e, rh, rv, f⟩)
    have hbx : Bx (cxD pr w K mg base N qual (defScope st) f cdv A outer s2 (upd H p (.tup vs)) E) (WE1 E) k := ⟨hr', hg, takes_of rfl rfl rfl rfl⟩
    refine ⟨_, sss_pss, (hb cdv A outer s2 _ E hbx (passes_of rfl)).run (E := { nx := fun _ H' => Q .non H', rt := Q }) (start_rs (N := N) (.cons rv' .nil)) rh' hf ?_⟩
    exact ⟨fun σ r G1 m1 H1 e1 _ rh1 q => cv .non _ G1 m1 H1 (e'.trans e1) rh1 (.d .non) q, fun v y G1 m1 H1 e1 rh1 rv1 q => cv v y G1 m1 H1 (e'.trans e1) rh1 rv1 q, fun _ _ _ _ _ _ _ _ q => q.elim, fun _ _ _ _ _ _ _ _ q => q.elim,
      fun c d fs σ r G1 m1 H1 e1 _ rh1 xf q => cx c d fs G1 m1 H1 (e'.trans e1) rh1 xf q⟩
structure GV (pr : Program) (w : World) (K : PySem.W.Frag) (mg : Str → Option Value) (base : Heap) (x : Str) (k : Nat) (f : Addr) (d : DSp) : Prop where
  fn : FnV pr w K mg base k f d
  gm : mg x = some (.ref f)
  kp : PySem.W.keepIn K (.ref f) = true
end
section
variable {X : Cx} {W : WX} {k j : Nat} {f : Addr} {d : DSp} {x : Str} {p pos : Pos} {e : Expr} {es : List Expr} {t : XA}
abbrev xCallV (d : DSp) (t : XA) : XE := fun r m F P => t r m (fun ys m1 => d ys m1 F P) P
theorem de_gv (F : GV X.prog X.w X.K X.mg X.base x k f d) (hr : Room j X.A) (hgd : X.A.guards = some []) (tk : Takes X W) (hg : Gl X x) (ha : DA X W (e :: es) t) (hk : k ≤ j := by decide) (hdb : (x == ("__debug__" : Str)) = false := by decide) (he : starEach (e :: es) X.env = (false, eval e X.env) :: starEach es X.env := by rfl)
    (hpl : (backTo pos (starEach es X.env)).any (·.1) = false := by rfl) : DE X W (.Call (.Name x p) (e :: es) [] pos) (xCallV d t) := ⟨fun {G r m σ H F' P Q} rs rh hx cv cx => fun pins s I => by
  refine wpAny_Call_Name_kw (ld_glob I hg F.gm ?_ hdb)
  have ha' := ha.run (Q := fun vs H1 => cz X.K d vs H1 Q (WEx W σ)) rs rh hx (fun vs ys G1 m1 H1 e1 rh1 rv1 q1 => ⟨G1, m1, ys, F', P, rh1, rv1, q1, cv.mono e1, cx.mono e1⟩) cx
  refine PySem.W.callWith_K (h₀ := X.base) I.ok.mod.kin F.kp (thn (ha' pos pins s I) fun us s1 ⟨vs, H1, I1, r1, q⟩ => ⟨I1.kIn, ?_⟩) he hpl
  refine wpAny_call (codeAny_mono (F.fn.run X.A X.stack s1 H1 us vs Q (WEx W σ) hgd (hr.mono hk) I1.env0 r1 q) fun z s' hq => ?_)
  match z, hq with
  | .error e, hq => exact passAt tk σ pins H1 s1 e s' I1 hq
  | .ok (.ret u), hq => exact I1.after hq
  | .ok .next, hq => exact False.elim hq
  | .ok .brk, hq => exact False.elim hq
  | .ok .cont, hq => exact False.elim hq⟩
end
end Dl
/-! D28: tuple * n for every n from 0 on; l.extend(tuple). -/
namespace Dl
open PySem PySem.Spec PyProof.Rows L2 Evl
theorem timesEW (a : Addr) (items : Array Value) (n : Nat) (od : Option Addr) (slots : Array (Option Value)) (x : Int) (u : Tok) (c0 : (decide (x < -(2 ^ 63)) || decide (x ≥ 2 ^ 63)) = false) (h0 : items.isEmpty = true) :
    Meets (PySem.Builtin.«tuple.__mul__» ⟨[.ref a, .int x u], []⟩) (fun _ R s => s.heap.get? a = some ⟨.type "tuple", od, .seq items n, slots⟩ ∧ R (.ok (.ret (Value.ref a))) s) :=
  .of_wp fun prog w A R s q => by
    obtain ⟨hq, gq, dq, tq, oq⟩ := s
    have at_a := q.1
    have ix := AutoSeq1.idx_int
    have c1 : (items.isEmpty || x == 1) = true := by rw [h0]; rfl
    wp_walk using wpAny_loadPart' at_a
    refine wpAny_ite_false (decide_eq_false (by rw [c0]; exact Bool.false_ne_true)) ?_
    wp_walk using wpAny_loadPart' at_a
    exact ⟨_, rfl, q.2⟩
section
variable {X : Cx}
abbrev rTimeE (K : PySem.W.Frag) : R2 := fun x y H Q => ∃ l k, x = .ref l ∧ y = .int k ∧ SqT K H l [] ∧ 0 ≤ k ∧ k ≤ 1000 ∧ Q (.ref l) H
theorem op_timeE : OpR X (binaryOp .Mult) (rTimeE X.K) := by
  intro ps s τ H x y v u Q I rx ry want
  obtain ⟨l, k, rfl, rfl, hT, k0, k1, q⟩ := want
  cases rx
  obtain ⟨t, rfl⟩ := ry
  obtain ⟨its, r, ⟨⟨oc, dd, od, sl⟩, ho, hc, n, hd⟩, _⟩ := I.tuple hT
  simp only at hc hd
  subst hc; subst hd
  cases r
  have c0 : (decide (k < -(2 ^ 63)) || decide (k ≥ 2 ^ 63)) = false := by
    rw [decide_eq_false (by omega), decide_eq_false (by omega)]; rfl
  exact wpAny_binaryOp_repeat_ref (T := "tuple") (U := "int") (by decide) ⟨_, ho, rfl⟩ (fun s' => typeIs_int s' k t) noFill_tuple_mul F.fills_int_mul F.slot_int_rmul repeat_tuple F.slot_int_index.lookup
    (call_meets F.slot_int_rmul (typeIs_int s k t) F.entry_int_rmul (F.args_int_rmul_2 _ _) (int_rmul_tuple k t l _ n dd sl)
      ⟨ho, rfl, ⟨_, ho, rfl⟩, call_meets F.slot_tuple_mul ⟨_, ho, rfl⟩ F.entry_tuple_mul (F.args_tuple_mul_2 _ _) (timesEW l _ n dd sl k t c0 rfl) ⟨ho, .ref l, H, I, rfl, q⟩⟩)
abbrev xRepT : XR := fun y z m F => ∃ ds k, y = .d (.tuple ds) ∧ z = .d (.int k) ∧ 0 ≤ k ∧ k ≤ 1000 ∧ ds.length ≤ 1000 ∧ F (.d (.tuple (List.replicate k.toNat ds).flatten)) m
theorem opd_repT : OpD X (binaryOp .Mult) xRepT := by
  refine ⟨fun x y H Q => rTimeE X.K x y H Q ∨ rTimes X.K x y H Q ∨ rRepT X.K x y H Q, fun ps s τ H x y v u Q I rx ry h => ?_, fun {G m H v w y z F Q} rh rv rw hx cv => ?_⟩
  · rcases h with h | h | h
    · exact op_timeE ps s τ H x y v u Q I rx ry h
    · exact op_times ps s τ H x y v u Q I rx ry h
    · exact op_repT ps s τ H x y v u Q I rx ry h
  · obtain ⟨ds, k, rfl, rfl, k0, k1, hl, f⟩ := hx
    cases rw.int
    have rv' := rv
    obtain ⟨p, vs, rfl, s1, q1⟩ := rv.tup
    cases ds with
    | nil =>
      cases q1
      refine .inl ⟨p, k, rfl, rfl, ex_t rh.sub s1, k0, k1, cv.at rh rv' ?_⟩
      have e : (List.replicate k.toNat ([] : List PyData)).flatten = [] := by simp
      rwa [e] at f
    | cons d ds =>
      have hne : vs ≠ [] := by cases q1; exact fun z => nomatch z
      by_cases h1 : k = 1
      · subst h1
        refine .inr (.inl ⟨p, 1, vs, rfl, rfl, ex_t rh.sub s1, hne, .inl ⟨rfl, cv.at rh rv' ?_⟩⟩)
        have e : (List.replicate (1 : Int).toNat (d :: ds)).flatten = d :: ds := by simp
        rwa [e] at f
      by_cases h0 : k = 0
      · subst h0
        refine .inr (.inl ⟨p, 0, vs, rfl, rfl, ex_t rh.sub s1, hne, .inr ⟨rfl, fun q hq => mkT_ok rh (vs := []) (ys := []) .nil hq ?_ cv⟩⟩)
        exact f
      · refine .inr (.inr ⟨p, k, vs, rfl, rfl, ex_t rh.sub s1, hne, by omega, k1, by rw [q1.length]; exact hl, fun q hq => ?_⟩)
        have rp : ∀ n : Nat, DaAll X.K G (List.replicate n vs).flatten (List.replicate n (d :: ds)).flatten := fun n => by
          induction n with
          | zero => exact .nil
          | succ n ih => rw [List.replicate_succ, List.replicate_succ, List.flatten_cons, List.flatten_cons]; exact q1.app ih
        obtain ⟨e3, r3⟩ := rh.data (o := .tup (List.replicate k.toNat vs).flatten) hq
        exact cv _ _ _ m _ e3 r3 (.d (.tup (.inl (.inl upd_same)) ((rp k.toNat).mono e3))) f
end
open AutoSeq1 (wpAny_loadPart')
theorem extTW (l : Addr) (xs : Array Value) (n : Nat) (b : Addr) (ys : Array Value) (n2 : Nat) (dd : Option Addr) (sl : Array (Option Value)) (g0 : ¬(!xs.isEmpty && Builtin.List.listTooLong (xs.size + ys.size)) = true) (g1 : xs.size ≤ sizeLine) (g2 : (xs ++ ys).size ≤ sizeLine + 1) :
    Meets (Builtin.«list.extend» ⟨[.ref l, .ref b], []⟩) (fun _ R s => s.heap.get? l = some { cls := .type "list", dict := none, data := .seq xs n, slots := #[] } ∧ s.heap.get? b = some { cls := .type "tuple", dict := dd, data := .seq ys n2, slots := sl } ∧ R (.ok (.ret Value.none)) { s with heap := s.heap.update l (Obj.mapSeq fun z => z ++ ys), toks := s.toks }) := .of_wp fun prog w A R s h => by
  obtain ⟨hp, g, d, tk, os⟩ := s
  obtain ⟨q1, q2, h⟩ := h
  have k1 := AutoSeq1.idx_int
  have k2 := AutoSeq1.sub_tuple_tuple
  have k3 := AutoSeq1.sub_list_list
  have k4 := AutoSeq1.sub_tuple_list
  have k5 := AutoSeq1.sub_list_tuple
  wp_walk using (wpAny_updateSeq q1 rfl (hz := g1) (_hz' := g2)), wpAny_loadPart' q1, wpAny_loadPart' q2
  exact ⟨_, rfl, h⟩
section
variable {X : Cx}
/-- l.extend(t), t a tuple that is data -/
abbrev xExtT : XRM := fun y ys m F => ∃ p zs ds, y = .l p ∧ ys = [.d (.tuple ds)] ∧ m p = some (.lst zs) ∧ zs.length + ds.length ≤ 10000 ∧ F (.d .none) (mu m p (.lst (zs ++ ds.map Y.d)))
theorem md_extendT : MtD X "list.extend" xExtT := by
  refine ⟨fun x vs H Q => ∃ l b xs zs, x = .ref l ∧ vs = [.ref b] ∧ H l = some (.lst xs) ∧ SqT X.K H b zs ∧ xs.length + zs.length ≤ sizeLine ∧ Q .non (upd H l (.lst (xs ++ zs))), ?_, fun {G m H v y vs ys F Q} rh rv rvs hx cv => ?_⟩
  · intro pins s σ H x vs v us Q I rx rv ⟨l, b, xs, zs, ex, ev, hH, hB, hz, q⟩
    subst ex ev
    cases rx
    obtain ⟨u, rfl, ru⟩ := rv.one
    cases ru
    obtain ⟨z, its, n, r, hl, e⟩ := I.lstM hH
    obtain ⟨its2, r2, ⟨⟨oc, dd, od, sl⟩, ho, hc, n2, hd⟩, _⟩ := I.tuple hB
    simp only at hc hd
    subst hc; subst hd
    have l2 := r2.length
    have hsz : its.toArray.size + its2.toArray.size ≤ sizeLine := by rw [List.size_toArray, List.size_toArray]; omega
    have g0 : ¬ (!its.toArray.isEmpty && Builtin.List.listTooLong (its.toArray.size + its2.toArray.size)) = true := by rw [notLongL hsz, Bool.and_false]; exact Bool.false_ne_true
    refine call_meets PySem.F.slot_list_extend ⟨_, e, rfl⟩ PySem.F.entry_list_extend (PySem.F.args_list_extend_2 _ _) (extTW l its.toArray n b its2.toArray n2 dd sl g0 (by rw [List.size_toArray]; omega) (by rw [Array.size_append]; omega)) ⟨e, ho, ?_⟩
    exact ⟨.non, _, I.lset (its' := its ++ its2) hH e (by simp) (r.append r2) (by rw [List.length_append]; omega), rfl, q⟩
  · obtain ⟨p, zs, ds, rfl, rfl, hm, hz, f⟩ := hx
    obtain ⟨w, rfl, rw⟩ := rvs1 rvs
    cases rv.loc
    obtain ⟨ws, e3, q⟩ := rh.lst hm
    obtain ⟨p2, vs2, rfl, s2, q2⟩ := rw.tup
    exact ⟨p, p2, ws, vs2, rfl, rfl, e3, ex_t rh.sub s2, by rw [q.length, q2.length]; exact Nat.le_trans hz szl, cv .non _ G _ _ (Ex.refl G) (rh.write hm (.lst (q.app q2.rvs))) (.d .non) f⟩
end
end Dl
/-! D29: a text in a text. -/
namespace Dl
open PySem PySem.Spec PyProof.Rows L2 Evl
section
variable {X : Cx}
abbrev xInS (neg : Bool) : XR := fun y z m F => ∃ a b, y = .d (.str a) ∧ z = .d (.str b) ∧ F (.d (.bool (if neg then !(!(Builtin.Str.occurrences b a 0 b.length 1).isEmpty) else !(Builtin.Str.occurrences b a 0 b.length 1).isEmpty))) m
theorem opd_inS : OpD X (compareOp .In) (xInS false) := ⟨_, op_in_str, fun {G m H v w y z F Q} rh rv rw hx cv => by
  obtain ⟨a, b, rfl, rfl, f⟩ := hx
  cases rv.str
  cases rw.str
  exact ⟨a, b, rfl, rfl, cv.at rh (.d (.bl _)) f⟩⟩
theorem opd_notinS : OpD X (compareOp .NotIn) (xInS true) := ⟨_, op_notin_str, fun {G m H v w y z F Q} rh rv rw hx cv => by
  obtain ⟨a, b, rfl, rfl, f⟩ := hx
  cases rv.str
  cases rw.str
  exact ⟨a, b, rfl, rfl, cv.at rh (.d (.bl _)) f⟩⟩
end
end Dl
/-! D30: a lambda handed to a def; what that def does with it; defs called in an except suite; the law's end with tables. -/
namespace Dl
open PySem PySem.Spec PyProof.Rows L2 Evl

/-! ### l.index(x) of data -/
section
variable {X : Cx}
abbrev xIdxD : XRM := fun y ys m F => ∃ ds d j z, y = .d (.list ds) ∧ ys = [.d d] ∧ SeqAt.shaped (.list ds) = true ∧ SeqAt.shaped d = true ∧ ds[j]? = some z ∧ PyData.eqv z d = true ∧ (∀ (n : Nat) (z' : PyData), n < j → ds[n]? = some z' → PyData.eqv z' d = false) ∧ F (.d (.int ((j : Nat) : Int))) m
theorem md_indexD (hu : X.A.units + 65 < cLine) : MtD X "list.index" xIdxD := ⟨_, mt_indexD hu, fun {G m H v y vs ys F Q} rh rv rvs hx cv => by
  obtain ⟨ds, d, j, z, rfl, rfl, s1, s2, e1, e2, e3, f⟩ := hx
  obtain ⟨w, rfl, rw⟩ := rvs1 rvs
  obtain ⟨p, vs, rfl, r1, q1⟩ := rv.lst
  have h1 : Da X.K H (.ref p) (.list ds) := (Da.lst r1 q1).mono rh.sub
  exact ⟨p, w, d, ds, j, z, rfl, rfl, h1.dp (SeqAt.canLay_of_shaped s1), (rw.da.mono rh.sub).dp (SeqAt.canLay_of_shaped s2), s1, s2, e1, e2, e3, cv.at rh (.d (.int _)) f⟩⟩
end

/-! ### a thunk: what is promised of its call -/
abbrev XTh := Mu → (Y → Mu → Prop) → XP → Prop
/-- the context of the def at g, called from X in the state s -/
abbrev cxG (X : Cx) (N : List Str) (q : Str) (sc : Scope) (g : Addr) (cd : Value) (s : Shared) (H : Hp) (E : XK) : Cx :=
  cxOf (L2.CX X.prog X.w) X.prog X.w X.K X.mg X.base N q sc g cd X.A X.stack s H E
/-- the context of a lambda's body, written in X, called from Z -/
abbrev cxL (X Z : Cx) (s : Shared) (H : Hp) (E : XK) (scope : Scope) (f c : Addr) : Cx := LamX.lamCx X Z.A Z.stack s H E scope f c
theorem bx_lam {X Z : Cx} {s : Shared} {H : Hp} {E : XK} {scope : Scope} {f c : Addr} {k : Nat} (hr : Room (k + 1) Z.A) (hg : Z.A.guards = some []) : Bx (cxL X Z s H E scope f c) (WE1 E) k :=
  ⟨hr.deeper _, hg, takes_of rfl rfl rfl rfl⟩
abbrev lamQ (X : Cx) : Str := X.env.qual ++ "<lambda>"
section
variable {X : Cx} {W : WX}
theorem pe_teof {e : Expr} {te : XE} (h : DE X W e te) : PE X e (TEof X.K W te) := ⟨fun pins s σ H Q I ⟨G, r, m, F, P, rs, rh, q, cv, cx⟩ => h.run rs rh q cv cx pins s I⟩
/-- the lambda is called in the def that got it -/
theorem pe_thunk {pins : List (Addr × Obj)} {σ : L2.St} {H : Hp} {s : Shared} {N : List Str} {q : Str} {sc : Scope} {g f c : Addr} {cd pm ctv : Value} {Eg E : XK} {params : Arguments} {body : Expr} {scope : Scope} {k i : Nat} {a : Str}
    {pn : List (Addr × Obj)} {xe : Value → Shared → Prop} {tb : TE} {p1 p2 : Pos} (I : Inv X pins σ H s) (L : LamX.LamS X.env.scope scope)
    (ho : s.heap.get? f = some (PySem.W.kla_obj "<lambda>" (lamQ X) params body scope (cloFrom X.env.cells scope.names []) pm c ctv)) (hn : H f = none) (hs : f ∉ frs X.stack)
    (hbd : bindArgs (PySem.W.kla_fn "<lambda>" (lamQ X) params body scope (cloFrom X.env.cells scope.names []) pm (.ref c) ctv) ⟨[], []⟩ = pure [])
    (tk : Takes ((cxG X N q sc g cd s H Eg).tr pn xe) W) (hW : ∀ cls d σ' H', E cls d H' → W cls d σ' H') (hr : Room (k + 1) (cxG X N q sc g cd s H Eg).A)
    (hb : ∀ (s1 : Shared) (H1 : Hp), PE (cxL X (cxG X N q sc g cd s H Eg) s1 H1 E scope f c) body tb)
    (hN : N[i]? = some a) (hv : Vis sc a) (hd : (a == ("__debug__" : Str)) = false) (hcd : (a == ("__classdict__" : Str)) = false) :
    PE ((cxG X N q sc g cd s H Eg).tr pn xe) (.Call (.Name a p1) [] [] p2) (fun τ Hz Q => τ[i]? = some (some (.ref f)) ∧ Hz c = some (LamX.CodeO c (lamQ X)) ∧ tb σ Hz Q) := by
  constructor
  intro pz z τ Hz Q J ⟨hs1, hc, ht⟩
  have look := (pe_var (X := (cxG X N q sc g cd s H Eg).tr pn xe) (pos := p1) (i := i) hN hv hd hcd).run pz z τ Hz (fun v H1 => v = .ref f ∧ H1 = Hz) J ⟨.ref f, hs1, rfl, rfl⟩
  refine wpAny_Call_Name_kw (thn look fun u z1 ⟨v, H1, J1, r1, ev, eH⟩ => ?_)
  cases ev
  cases eH
  cases r1
  have still := J1.base.keep f _ ho hn hs (fun y => nomatch y)
  refine PySem.W.callWith_F0 ⟨_, _, _, _, still⟩ ?_
  obtain ⟨⟨oc, vs, t, e1, e2, e3⟩, _, _⟩ := J1.hok c _ hc
  have un : Un (frs X.stack) [] H Hz s.heap z1.heap := J1.base
  have go : codeAny (model X.prog X.w) (cxG X N q sc g cd s H Eg).A (.call (.ref f) ⟨[], []⟩) (CR (L2.CX X.prog X.w) (cxG X N q sc g cd s H Eg).stack X.prog X.w Hz z1 Q E) z1 := by
    refine PySem.W.kla_callFunE hr.depth still rfl L.co L.gen rfl ⟨c, oc, vs, t, rfl, e1, e2, e3⟩ ?_
    rw [hbd]
    refine wpAny_pure (wpAny_newFunctionEnv (fun y hy => (L.own y hy).2) (fun y hy => nomatch hy) (fun h1 ns sb => ⟨J1.nolimit.fresh _ sb, ?_⟩) L.kind)
    have kept : ∀ b o, z1.heap.get? b = some o → h1.get? b = some o := fun b o e => sb.extBut b o (Nat.ne_of_lt (Heap.lt_size e)) (Heap.get?_push_of_some _ e)
    have J2 : Inv (cxL X (cxG X N q sc g cd s H Eg) z1 Hz E scope f c) [] σ Hz { z1 with heap := h1, toks := z1.toks + 0 } := LamX.lam_start2 I L J1.env0 hr.hd un ns kept
    refine PySem.W.kla_codeExpr (wpAny_mono ((hb z1 Hz).run [] _ _ Hz Q J2 ht) (fun v s' hq => ?_) fun e s' hq => hq)
    obtain ⟨w', H', J', rv, q'⟩ := hq
    exact ⟨w', H', J'.os, J'.bare, J'.base, J'.hok, rv, q'⟩
  have pass : Passes (L2.CX X.prog X.w) ((cxG X N q sc g cd s H Eg).tr pn xe) E := passes_call tk hW
  refine wpAny_call (codeAny_mono go fun r s' hq => ?_)
  match r, hq with
  | .error e, hq => exact pass pz τ Hz z1 e s' J1 hq
  | .ok (.ret u), hq => exact J1.after hq
  | .ok .next, hq => exact False.elim hq
  | .ok .brk, hq => exact False.elim hq
  | .ok .cont, hq => exact False.elim hq
end
/-- the def at g, which gets a thunk: what it makes of the thunk's promise -/
def GivesD (X : Cx) (N : List Str) (q : Str) (sc : Scope) (g : Addr) (cd : Value) (bg : List Stmt) (a : Str) (k : Nat) (dd : XTh → XTh) : Prop :=
  ∀ (f : Addr) (s : Shared) (H G : Hp) (m : Mu) (F : Y → Mu → Prop) (P : XP) (Q : VK) (E : XK) (tl : XTh), X.A.guards = some [] → Room k (cxG X N q sc g cd s H E).A →
    (∀ (W : WX) (pn : List (Addr × Obj)) (xe : Value → Shared → Prop) (Ec : XK) (p1 p2 : Pos), Takes ((cxG X N q sc g cd s H E).tr pn xe) W → (∀ cls d σ' H', Ec cls d H' → W cls d σ' H') →
      PE ((cxG X N q sc g cd s H E).tr pn xe) (.Call (.Name a p1) [] [] p2) (fun τ Hz Qz => τ[0]? = some (some (.ref f)) ∧ ∃ G1 m1 F1 P1, Ex G G1 ∧ Rh X.K G1 m1 Hz ∧ tl m1 F1 P1 ∧ CvE X.K G1 F1 Qz ∧ CvX X.K G1 P1 Ec)) →
    Rh X.K G m H → dd tl m F P → CvE X.K G F Q → CvX X.K G P E →
    ∃ t, PSs (cxG X N q sc g cd s H E) bg t ∧ t { nx := fun _ H' => Q .non H', rt := Q } (L2.start N [.ref f]) H
structure LF (pr : Program) (w : World) (K : PySem.W.Frag) (mg : Str → Option Value) (base : Heap) (x : Str) (k : Nat) (g : Addr) (N : List Str) (st : Stmt) (fd : FuncData) (a : Str) (dd : XTh → XTh) : Prop where
  fn : L2.Fun K x x st g fd
  sc : FnScope N [a] (defScope st)
  bd : Binds K fd [a] []
  gm : mg x = some (.ref g)
  kp : PySem.W.keepIn K (.ref g) = true
  n0 : N[0]? = some a
  vi : Vis (defScope st) a
  gv : ∀ (X : Cx) (cd : Value), X.prog = pr → X.w = w → X.K = K → X.mg = mg → X.base = base → GivesD X N x (defScope st) g cd (defBody st) a k dd
section
variable {X : Cx} {W : WX} {x a : Str} {k j kk : Nat} {g c Pt : Addr} {N : List Str} {st : Stmt} {fd : FuncData} {dd : XTh → XTh} {params : Arguments} {body : Expr} {scope : Scope} {lpos p pos : Pos} {tx : XE} {qn : Str}
/-- g(lambda: body) -/
abbrev xLam (Pt : Addr) (qn : Str) (dd : XTh → XTh) (tx : XE) : XE := fun r m F P => ∃ T, m Pt = some (.tab T) ∧ (Pt, qn) ∈ T ∧ (∀ p ∈ T, p.1 = Pt → p.2 = qn) ∧ dd (tx r) m F P
theorem de_lam (F : LF X.prog X.w X.K X.mg X.base x k g N st fd a dd) (hr : Room j X.A) (hgd : X.A.guards = some []) (tk : Takes X W) (hg : Gl X x) (TB : LamX.TabB X.base X.mg c Pt) (hcode : X.env.code = .ref c)
    (L : LamX.LamS X.env.scope scope) (hb : ∀ (Z : Cx) (s : Shared) (H : Hp) (E : XK) (f c : Addr), Bx (cxL X Z s H E scope f c) (WE1 E) kk → DE (cxL X Z s H E scope f c) (WE1 E) body tx)
    (hq : lamQ X = qn := by rfl) (h1 : kk + 2 ≤ j := by omega) (h2 : k ≤ kk + 1 := by omega) (hdef : defaultsOf params X.env = ([], []) := by rfl)
    (hbind : ∀ (q : Str) (cl : List (Str × Addr)) (pm cv ctv : Value), bindArgs (PySem.W.kla_fn "<lambda>" q params body scope cl pm cv ctv) ⟨[], []⟩ = pure [] := by intros; rfl)
    (hdb : (x == ("__debug__" : Str)) = false := by decide) (hd : (a == ("__debug__" : Str)) = false := by decide) (hcd : (a == ("__classdict__" : Str)) = false := by decide) :
    DE X W (.Call (.Name x p) [.Lambda params body scope lpos] [] pos) (xLam Pt qn dd tx) := ⟨fun {G r m σ H F' P Q} rs rh hx cv cx => fun pins s I => by
  subst hq
  obtain ⟨T, hP, hmT, hu, hx⟩ := hx
  have hT : LamX.Tabs T H := fun p hp => by
    obtain ⟨_, b2, _⟩ := rh.tb Pt T hP
    obtain ⟨_, ps, q1, q2, q3⟩ := b2 p hp
    exact ⟨ps, q1, q2, fun pos cv hc => by obtain ⟨c, e1, e2⟩ := q3 pos cv hc; exact ⟨c, e1, rh.sub _ _ e2⟩⟩
  refine wpAny_Call_Name_kw (ld_glob I hg F.gm ?_ hdb)
  refine PySem.W.callWith_K (h₀ := X.base) I.ok.mod.kin F.kp ?_ (by rfl) (by rfl)
  show wpAny _ _ (spliced ((false, eval (.Lambda params body scope lpos) X.env) :: backTo pos (starEach [] X.env))) _ _ s
  refine Calls.spliced_cons (LamX.lam_make2 I TB hcode hmT hu hT hdef (L.has I.ok) fun f c' pm' ctv H1 s' I1 eN T1 hf hfn hfr hco => ?_)
  refine Calls.spliced_nil ⟨I1.kIn, ?_⟩
  obtain ⟨G1, e1, rh1, hc1⟩ := rh.lam hP eN T1
  obtain ⟨oc, od, kV, doc, pm, an, cdv, ct, osl, rfl, lk, hcdv⟩ := F.fn.ex
  have hr1 : Room (kk + 1 + 1) X.A := hr.mono h1
  have rc : codeAny (model X.prog X.w) X.A (.call (.ref g) ⟨[.ref f], []⟩) (CR (L2.CX X.prog X.w) X.stack X.prog X.w H1 s' Q (WEx W σ)) s' := by
    refine LamX.run_ofS (N := N) (ps := [a]) (us := [.ref f]) (vs := [.ref f]) lk hcdv F.sc hr1 I1.env0 (F.bd s' [.ref f] I1.kIn rfl) (.cons rfl .nil) rfl fun hr2 => ?_
    refine F.gv X cdv rfl rfl rfl rfl rfl f s' H1 G1 m F' P Q (WEx W σ) (tx r) hgd (hr2.mono h2) (fun W' pn xe Ec p1 p2 tk' hW => ?_) rh1 hx (cv.mono e1) (cx.mono e1)
    have bd := pe_thunk (p1 := p1) (p2 := p2) (k := kk) (i := 0) (tb := TEof X.K (WE1 Ec) tx) I1 L hf hfn hfr (hbind _ _ _ _ _) tk' hW hr2 (fun s1 H2 => pe_teof (hb _ s1 H2 Ec f c' (bx_lam hr2 hgd))) F.n0 F.vi hd hcd
    exact ⟨fun pz z τ Hz Qz J ⟨y1, G2, m2, F2, P2, y2, y3, y4, y5, y6⟩ => bd.run pz z τ Hz Qz J ⟨y1, y3.sub _ _ (y2 _ _ (hc1 _ _ hco)), G2, r, m2, F2, P2, rs.mono (e1.trans y2), y3, y4, y5, y6⟩⟩
  refine wpAny_call (codeAny_mono rc fun y s2 hq => ?_)
  match y, hq with
  | .error e, hq => exact passAt tk σ pins H1 s' e s2 I1 hq
  | .ok (.ret u), hq => exact I1.after hq
  | .ok .next, hq => exact False.elim hq
  | .ok .brk, hq => exact False.elim hq
  | .ok .cont, hq => exact False.elim hq⟩
end
end Dl
/-! D31: defs called in an except suite with the exception; isinstance of it; try: return [call()] except E as e: return f(e). -/
namespace Dl
open PySem PySem.Spec PyProof.Rows L2 Evl

theorem RoomH.u64 {k : Nat} {A : Around} (r : L2H.RoomH k A) : A.units + 64 < cLine := by have := r.un; omega
theorem RoomH.u65 {k : Nat} {A : Around} (r : L2H.RoomH k A) : A.units + 65 < cLine := by have := r.un; omega
theorem Room.u65 {k : Nat} {A : Around} (r : Room k A) : A.units + 65 < cLine := by have := r.un; omega
/-- what a def promises that is called with the exception that is handled: by its class -/
abbrev DEx := Value → Mu → (Y → Mu → Prop) → Prop
abbrev Eno : XK := fun _ _ _ => False
structure FnE (pr : Program) (w : World) (K : PySem.W.Frag) (mg : Str → Option Value) (base : Heap) (k : Nat) (f : Addr) (fd : FuncData) (p : Str) (de : DEx) : Prop where
  run : ∀ (A : Around) (outer : List Env) (s : Shared) (H : Hp) (args : Args) (Q : VK) (a : Addr) (oe : Obj) (cls : Value), A.guards = some [] → L2H.RoomH k A → L2H.PinOk outer H s (a, oe) → Zc cls none oe → (∃ vs, oe.data = .fields vs) →
    Env0 pr w K mg base A outer s H → BindsTo s fd args [(p, .ref a)] → (∃ G m F, Rh K G m H ∧ de cls m F ∧ CvE K G F Q) → codeAny (model pr w) A (.call (.ref f) args) (CR (L2.CX pr w) outer pr w H s Q Eno) s
theorem FnE.mono {pr : Program} {w : World} {K : PySem.W.Frag} {mg : Str → Option Value} {base : Heap} {j k : Nat} {f : Addr} {fd : FuncData} {p : Str} {de : DEx} (F : FnE pr w K mg base j f fd p de) (h : j ≤ k) : FnE pr w K mg base k f fd p de :=
  ⟨fun A outer s H args Q a oe cls hg hr => F.run A outer s H args Q a oe cls hg (hr.mono h)⟩
/-- the context of such a def's body -/
abbrev cxE (pr : Program) (w : World) (K : PySem.W.Frag) (mg : Str → Option Value) (base : Heap) (N : List Str) (qual : Str) (sc : Scope) (f : Addr) (cd : Value) (A : Around) (outer : List Env) (s : Shared) (H : Hp) (q : Addr × Obj) : Cx :=
  L2H.cxH (L2.CX pr w) pr w K mg base N qual sc f cd A outer s H Eno q
structure BxE (X : Cx) (k : Nat) (a : Addr) (cls : Value) : Prop where
  hr : L2H.RoomH k X.A
  gd : X.A.guards = some []
  tk : Takes X (WE1 Eno)
  pin : ∃ oe, (a, oe) ∈ X.pn ∧ Zc cls none oe ∧ ∃ vs, oe.data = .fields vs
section
variable {pr : Program} {w : World} {K : PySem.W.Frag} {mg : Str → Option Value} {base : Heap}
theorem Fun.dokE {x qual p : Str} {st : Stmt} {f : Addr} {fd : FuncData} {N : List Str} {k : Nat} {de : DEx} (F : L2.Fun K x qual st f fd) (S : FnScope N [p] (defScope st)) (t : Addr → Value → XS)
    (hb : ∀ (a : Addr) (cls cdv : Value) (A : Around) (outer : List Env) (s : Shared) (H : Hp) (oe : Obj), BxE (cxE pr w K mg base N qual (defScope st) f cdv A outer s H (a, oe)) k a cls → DSs (cxE pr w K mg base N qual (defScope st) f cdv A outer s H (a, oe)) (WE1 Eno) (defBody st) (t a cls))
    (vc : ∀ a cls m F, de cls m F → t a cls { nx := fun _ m => F (.d .none) m, rt := F } (startY N [.v (.ref a)]) m) : FnE pr w K mg base (k + 1) f fd p de := by
  obtain ⟨oc, od, kV, doc, pm, an, cdv, ct, osl, rfl, lk, hcd⟩ := F.ex
  refine ⟨fun A outer s H args Q a oe cls hg hr hpin hz hf e0 hbd ⟨G, m, Fy, rh, hd, cv⟩ => ?_⟩
  have KX : K.In s.heap := e0.mod.kin.keeps fun b o e => (e0.bs b o e).1
  have hkind : ∀ y ∈ [(p, Value.ref a)], (defScope st).names.lookup y.1 = some .local ∨ ((defScope st).names.lookup y.1 = some .cell ∧ ((cellsFrom (s.heap.objs.size + 1) (defScope st).names []).lookup y.1).isSome = true) := by
    intro y hy
    rw [List.mem_singleton.mp hy]
    exact (S.par p List.mem_cons_self).imp id fun q => ⟨q, PySem.W.cellsFrom_some _ _ _ (.inl q)⟩
  refine codeAny_call_function hr.depth (KX _ _ lk) rfl S.co S.gen rfl (PySem.W.codeRec_of KX hcd) (hbd _ _ _ _ ?_)
  refine wpAny_newFunctionEnv_cells S.kind hkind fun env he s1 x => ?_
  subst he
  refine ⟨(e0.mod.nolimit.keeps fun b o e => (e0.bs b o e).1).keeps x.toInCall.keep, codeAny_func ?_⟩
  have bx : BxE (cxE pr w K mg base N qual (defScope st) f cdv A outer s H (a, oe)) k a cls := ⟨hr.deeper _, hg, takes_of rfl rfl rfl rfl, oe, List.mem_cons_self, hz, hf⟩
  have rv : RVs K G [V.ref a] [.v (.ref a)] := .cons (.v _) .nil
  have I := L2H.inv_startH (CX := L2.CX pr w) (E := Eno) (vs := [V.ref a]) (us := [.ref a]) (ps := [p]) S hpin e0 rfl (.cons rfl .nil) x
  have go := (hb a cls cdv A outer s H oe bx).run (E := { nx := fun _ H' => Q .non H', rt := Q }) (start_rs (N := N) rv) rh (vc a cls m Fy hd)
    ⟨fun σ r G' m' H' e1 _ rh1 q => cv .non _ G' m' H' e1 rh1 (.d .non) q, fun v y G' m' H' e1 rh1 rv1 q => cv v y G' m' H' e1 rh1 rv1 q, fun _ _ _ _ _ _ _ _ q => q.elim, fun _ _ _ _ _ _ _ _ q => q.elim, fun _ _ _ _ _ _ _ _ _ _ _ _ q => q.elim⟩ [] s1 I
  have fin : ∀ {s' : Shared} {σ' : L2.St} {H' : Hp} {v : V} {u : Value}, Inv (cxE pr w K mg base N qual (defScope st) f cdv A outer s H (a, oe)) [] σ' H' s' → RelV v u → Q v H' → CE outer pr w H s Q u s' :=
    fun J rv q => ⟨_, _, J.os, J.bare, J.base, J.hok, rv, q⟩
  refine wpAny_mono go (fun fl s' hs => ?_) fun e s' hs => hs
  match fl, hs with
  | .ret u, ⟨v, σ', H', J, rv, q⟩ => exact fin J rv q
  | .next, ⟨σ', H', J, q⟩ => exact fin (v := V.non) (u := Value.none) J rfl q
  | .brk, ⟨_, _, _, q⟩ => exact False.elim q
  | .cont, ⟨_, _, _, q⟩ => exact False.elim q
end
theorem boot_ValueE : bootBuiltins "ValueError" = some (.type "ValueError") := by decide +kernel
/-! ### isinstance(e, C), e the exception that is handled -/
abbrev xIsE (K : PySem.W.Frag) (a : Addr) (cls : Value) : XRC := fun ys m F => ∃ D c cv b, cls = .ref D ∧ ExcC K D ∧ ys = [.v (.ref a), .v c] ∧ ((∃ C, c = .ref C ∧ cv = .ref C) ∨ ∃ T, c = .ty T ∧ cv = .type T) ∧ PySem.W.kitOne K cls cv = some b ∧ F (.d (.bool b)) m
theorem cd_isE {X : Cx} {k : Nat} {a : Addr} {cls : Value} (B : BxE X k a cls) : CallD X (.builtin "isinstance") (xIsE X.K a cls) := by
  obtain ⟨oe, hp, hz, vs0, hv0⟩ := B.pin
  refine ⟨fun xs H Q => ∃ (D : Addr) (c : V) (cv : Value) (b : Bool), cls = .ref D ∧ ExcC X.K D ∧ xs = [.ref a, c] ∧ (∀ u, RelV c u → u = cv) ∧ PySem.W.kitOne X.K cls cv = some b ∧ Q (.bl b) H, ?_, fun {G m H vs ys F Q} rh rv hx cv => ?_⟩
  · intro pins s σ H xs us Q I r ⟨D, c, cv, b, ecls, C, ex, hcv, e, q⟩
    subst ex ecls
    obtain ⟨u0, us', rfl, r0, rr⟩ : ∃ u0 us', us = u0 :: us' ∧ RelV (.ref a) u0 ∧ Vals [c] us' := by
      cases r with
      | cons h t => exact ⟨_, _, rfl, h, t⟩
    obtain ⟨u1, rfl, r1⟩ := rr.one
    cases r0
    cases hcv _ r1
    have hget := (I.pin (a, oe) (List.mem_append_left _ hp)).1
    have J : PySem.W.InstAt s.heap a oe D none := by
      obtain ⟨oc, od, oda, osl⟩ := oe
      obtain ⟨h1, h2⟩ := hz
      dsimp only at h1 h2 hv0
      subst h1 h2 hv0
      exact ⟨hget, rfl, rfl, trivial⟩
    exact PySem.W.kia_one (PySem.W.handS_kitx_exc C.hg C.hk C.hs C.hd C.ha C.hn C.ht C.hm) I.kIn J e (fun z => nomatch z) fun tk => ⟨.bl b, H, I.kept (t' := tk) fun _ _ z => z, rfl, q⟩
  · obtain ⟨D, c, cv', b, ecls, C, rfl, hc, e, f⟩ := hx
    obtain ⟨v, w, rfl, r1, r2⟩ := rvs2 rv
    cases r1
    cases r2
    refine ⟨D, c, cv', b, ecls, C, rfl, fun u hu => ?_, e, cv.at rh (.d (.bl b)) f⟩
    rcases hc with ⟨C', rfl, rfl⟩ | ⟨T, rfl, rfl⟩ <;> exact hu
theorem kisE (K : PySem.W.Frag) {X : Cx} {k : Nat} {a : Addr} {cls : Value} (B : BxE X k a cls) (hK : X.K = K := by rfl) : CallD X (.builtin "isinstance") (xIsE K a cls) := by
  subst hK; exact cd_isE B
/-! ### its call from the suite -/
section
variable {X : Cx} {x p : Str} {k : Nat} {f a : Addr} {fd : FuncData} {de : DEx} {cls : Value} {oe : Obj} {arg : Expr} {t : TA} {q pos : Pos}
theorem pe_hot (F : FnE X.prog X.w X.K X.mg X.base k f fd p de) (hr : L2H.RoomH k X.A) (hgd : X.A.guards = some []) (hp : (a, oe) ∈ X.pn) (hz : Zc cls none oe) (hf : ∃ vs, oe.data = .fields vs) (hg : Gl X x) (hm : X.mg x = some (.ref f))
    (hk : PySem.W.keepIn X.K (.ref f) = true) (hb : Binds X.K fd [p] []) (tk : Takes X W0) (ha : PA X [arg] t) (hdb : (x == ("__debug__" : Str)) = false := by decide) (he : starEach [arg] X.env = (false, eval arg X.env) :: starEach [] X.env := by rfl) :
    PE X (.Call (.Name x q) [arg] [] pos) (fun σ H Q => t σ H fun vs H1 => vs = [.ref a] ∧ ∃ G m F', Rh X.K G m H1 ∧ de cls m F' ∧ CvE X.K G F' Q) := by
  refine ⟨fun pins s σ H Q I h => ?_⟩
  refine wpAny_Call_Name_kw (ld_glob I hg hm ?_ hdb)
  refine PySem.W.callWith_K (h₀ := X.base) I.ok.mod.kin hk (thn (ha.run pos pins s σ H _ I h) fun us s1 ⟨vs, H1, I1, r, e, q⟩ => ⟨I1.kIn, ?_⟩) he rfl
  subst e
  obtain ⟨u, rfl, ru⟩ := r.one
  cases ru
  have P1 := I1.pin (a, oe) (List.mem_append_left _ hp)
  have hpin : L2H.PinOk X.stack H1 s1 (a, oe) := ⟨P1.1, P1.2.1, fun hm => (List.mem_cons.mp (I1.stkSub a hm)).elim P1.2.2.1 P1.2.2.2.1, P1.2.2.2.2⟩
  have b := hb s1 [.ref a] I1.kIn rfl
  refine wpAny_call (codeAny_mono (F.run X.A X.stack s1 H1 ⟨[.ref a], []⟩ Q a oe cls hgd hr hpin hz hf I1.env0 b q) fun y s' hq => ?_)
  match y, hq with
  | .error e, hq => exact passAt (W := W0) tk σ pins H1 s1 e s' I1 hq
  | .ok (.ret u), hq => exact I1.after hq
  | .ok .next, hq => exact False.elim hq
  | .ok .brk, hq => exact False.elim hq
  | .ok .cont, hq => exact False.elim hq
end
/-! ### try: return [call()] / except E as n: return word(n) -/
abbrev d_said (K : PySem.W.Frag) (CS : Addr) (de : DEx) : XTh → XTh := fun tl m F P => tl m (fun y m1 => ∃ d, y = .d d ∧ F (.d (.list [d])) m1) (fun cls fs m1 => fs = [] ∧ PySem.W.exmOne K cls (.ref CS) = some true ∧ de cls m1 F)
theorem said_gives {pr : Program} {w : World} {K : PySem.W.Frag} {mg : Str → Option Value} {base : Heap} {N : List Str} {x a e n wf pw : Str} {sc : Scope} {g CS fw : Addr} {fdw : FuncData} {k : Nat} {cd : Value} {i : Nat} {de : DEx}
    {p1 p2 p3 p4 p5 p6 p7 p8 p9 p10 p11 : Pos} (S : FnScope N [a] sc) (hge : sc.names.lookup e = some .globalImplicit) (hme : mg e = some (.ref CS)) (hde : (e == ("__debug__" : Str)) = false) (hi : N[i]? = some n) (hil : i < N.length) (hi0 : i ≠ 0) (hn : sc.names.lookup n = some .local) (hnd : (n == ("__debug__" : Str)) = false) (hnc : (n == ("__classdict__" : Str)) = false)
    (h0 : ∀ f : Addr, (L2.start N [V.ref f])[0]? = some (some (V.ref f))) (FW : FnE pr w K mg base k fw fdw pw de) (hgw : sc.names.lookup wf = some .globalImplicit) (hmw : mg wf = some (.ref fw)) (hkw : PySem.W.keepIn K (.ref fw) = true) (hbw : Binds K fdw [pw] []) (hdw : (wf == ("__debug__" : Str)) = false)
    (X : Cx) (x1 : X.prog = pr) (x2 : X.w = w) (x3 : X.K = K) (x4 : X.mg = mg) (x5 : X.base = base) :
    GivesD X N x sc g cd [.Try [.Return (some (.List [.Call (.Name a p1) [] [] p2] p3)) p4] [.ExceptHandler (some (.Name e p5)) (some n) [.Return (some (.Call (.Name wf p6) [.Name n p7] [] p8)) p9] p10] [] [] p11] a k (d_said K CS de) := by
  subst x1 x2 x3 x4 x5
  intro f s H G m F P Q E tl hgd hr act rh hx cv cx
  have hnm : Names (cxG X N x sc g cd s H E) e (.ref CS) := ⟨hge, hde, .inl hme⟩
  refine ⟨_, pss_one (ps_try_as (X := cxG X N x sc g cd s H E) (i := i) (Wout := WE1 E)
    (tb := fun W' D τ Hz => ∃ Ec : XK, (∀ cls d σ' H', Ec cls d H' → W' cls d σ' H') ∧ τ[0]? = some (some (.ref f)) ∧ ∃ G1 m1 F1 P1, Ex G G1 ∧ Rh X.K G1 m1 Hz ∧ tl m1 F1 P1 ∧ CvE X.K G1 F1 (fun v H1 => ∀ p, H1 p = none → D.rt (.ref p) (upd H1 p (.lst [v]))) ∧ CvX X.K G1 P1 Ec)
    (ts := fun b cls d D τ Hz => (∃ τ0 : L2.St, τ = τ0.set i (some (.ref b))) ∧ d = none ∧ ∃ G1 m1 F1, Rh X.K G1 m1 Hz ∧ de cls m1 F1 ∧ CvE X.K G1 F1 D.rt)
    rfl rfl S.nd hi hn hnm (takes_of rfl rfl rfl rfl) (fun W' pn xe tk' _ => ?_) (fun b oe cls d pn hz hf => ?_)), ?_⟩
  · refine ⟨fun pz z τ Hz D J ⟨Ec, hW, y1, G1, m1, F1, P1, y2, y3, y4, y5, y6⟩ => ?_⟩
    have hc := act W' pn xe Ec p1 p2 tk' hW
    have hall := pss_one (ps_ret (pos := p4) (pe_lst (pos := p3) (pa_cons hc pa_nil)))
    exact hall.run pz z τ Hz D J ⟨y1, G1, m1, F1, P1, y2, y3, y4, fun v y G2 m2 H2 e2 rh2 rv2 q => ⟨by show 1 ≤ sizeLine; decide, y5 v y G2 m2 H2 e2 rh2 rv2 q⟩, y6⟩
  · refine ⟨fun pz z τ Hz D J ⟨y1, y2, G1, m1, F1, y3, y4, y5⟩ => ?_⟩
    subst y2
    have y1' : τ[i]? = some (some (V.ref b)) := by
      obtain ⟨τ0, rfl⟩ := y1
      have hl : (τ0.set i (some (V.ref b))).length = N.length := J.len
      rw [List.length_set] at hl
      rw [List.getElem?_set_self (by omega)]
    have hv : PE ((cxG X N x sc g cd s H E).suite b ((b, oe) :: pn)) (.Name n p7) (tVar i) := pe_var hi (.inl hn) hnd hnc
    have hro : L2H.RoomH k ((cxG X N x sc g cd s H E).suite b ((b, oe) :: pn)).A := ⟨hr.dp, hr.un⟩
    have hc := pe_hot (X := (cxG X N x sc g cd s H E).suite b ((b, oe) :: pn)) (q := p6) (pos := p8) FW hro hgd List.mem_cons_self hz hf hgw hmw hkw hbw LamX.takes0 (pa_cons hv pa_nil) hdw
    have hall := pss_one (ps_ret (pos := p9) hc)
    exact hall.run pz z τ Hz D J ⟨.ref b, y1', rfl, G1, m1, F1, y3, y4, y5⟩
  · refine ⟨fun cls d H' => ∃ G1 m1, Rh X.K G1 m1 H' ∧ Ex G G1 ∧ d = none ∧ PySem.W.exmOne X.K cls (.ref CS) = some true ∧ de cls m1 F, fun cls d σ' H' ⟨G1, m1, y1, y2, y3, y4, y5⟩ => ⟨true, y4, fun _ b _ => ⟨⟨_, rfl⟩, y3, G1, m1, F, y1, y5, cv.mono y2⟩, fun z => nomatch z⟩, h0 f, G, m, _, _, Ex.refl G, rh, hx, fun v y G1 m1 H1 e1 rh1 rv1 ⟨d, q1, q2⟩ p hp => ?_, fun cls d fs G1 m1 H1 e1 rh1 xf ⟨q1, q2, q3⟩ => ⟨G1, m1, rh1, e1, ?_, q2, q3⟩⟩
    · subst q1
      exact lstD_ok (ds := [d]) rh1 (.cons rv1 .nil) hp q2 (cv.mono e1)
    · rcases xf with ⟨_, h⟩ | ⟨h, _⟩
      · exact h
      · exact absurd q1 h
end Dl
/-! D32: a def whose code object is known; the end of a law that makes lambdas. -/
namespace Dl
open PySem PySem.Spec PyProof.Rows L2 Evl

/-- Fun, its code object told -/
structure FunC (K : PySem.W.Frag) (x qual : Str) (st : Stmt) (f : Addr) (fd : FuncData) (cdv : Value) : Prop where
  ex : ∃ (oc : Value) (od : Option Addr) (kV doc pm : Value) (an : Option Addr) (ct : Value) (osl : Array (Option Value)),
    fd = PySem.W.fnOf x qual (defArgs st) (defBody st) (defScope st) .none kV doc pm an cdv ct ∧ K.lookup f = some ⟨oc, od, .func fd, osl⟩ ∧ PySem.W.codeIn K cdv qual = true
  kp : PySem.W.keepIn K (.ref f) = true
theorem FunC.fn {K : PySem.W.Frag} {x qual : Str} {st : Stmt} {f : Addr} {fd : FuncData} {cdv : Value} (F : FunC K x qual st f fd cdv) : L2.Fun K x qual st f fd := by
  obtain ⟨oc, od, kV, doc, pm, an, ct, osl, h⟩ := F.ex
  exact ⟨⟨oc, od, kV, doc, pm, an, cdv, ct, osl, h⟩, F.kp⟩
section
variable {pr : Program} {w : World} {K : PySem.W.Frag} {mg : Str → Option Value} {base : Heap}
theorem FunC.dok {x qual : Str} {st : Stmt} {f : Addr} {fd : FuncData} {cdv : Value} {N ps : List Str} {k : Nat} {d : DSp} (F : FunC K x qual st f fd cdv) (S : FnScope N ps (defScope st)) (t : XS)
    (hb : ∀ (A : Around) (outer : List Env) (s : Shared) (H : Hp) (E : XK), Bx (cxD pr w K mg base N qual (defScope st) f cdv A outer s H E) (WE1 E) k → PassesOwn (model pr w) (cxD pr w K mg base N qual (defScope st) f cdv A outer s H E).A (cxD pr w K mg base N qual (defScope st) f cdv A outer s H E).env (cxD pr w K mg base N qual (defScope st) f cdv A outer s H E).xe →
      DSs (cxD pr w K mg base N qual (defScope st) f cdv A outer s H E) (WE1 E) (defBody st) t)
    (vc : ∀ ys m F P, d ys m F P → ys.length = ps.length ∧ t { nx := fun _ m => F (.d .none) m, rt := F, ex := fun c fs _ m => P c fs m } (startY N ys) m) : FnD pr w K mg base (k + 1) f fd ps d := by
  obtain ⟨oc, od, kV, doc, pm, an, ct, osl, rfl, lk, hcd⟩ := F.ex
  refine ⟨fun ys m F P h => (vc ys m F P h).1, fun A outer s H args us vs Q E hg hr e0 hbd r hsp => ?_⟩
  obtain ⟨G, m, ys, Fy, P, rh, rv, hd, cv, cx⟩ := hsp
  obtain ⟨hl, hvc⟩ := vc ys m Fy P hd
  have hlv : vs.length = ps.length := by rw [RVs.length rv]; exact hl
  have KX : K.In s.heap := e0.mod.kin.keeps fun b o e => (e0.bs b o e).1
  have hkind : ∀ y ∈ ps.zip us, (defScope st).names.lookup y.1 = some .local ∨ ((defScope st).names.lookup y.1 = some .cell ∧ ((cellsFrom (s.heap.objs.size + 1) (defScope st).names []).lookup y.1).isSome = true) := by
    rintro ⟨n, v⟩ hy
    exact (S.par n (List.of_mem_zip hy).1).imp id fun q => ⟨q, PySem.W.cellsFrom_some _ _ _ (.inl q)⟩
  refine codeAny_call_function hr.depth (KX _ _ lk) rfl S.co S.gen rfl (PySem.W.codeRec_of KX hcd) (hbd _ _ _ _ ?_)
  refine wpAny_newFunctionEnv_cells S.kind hkind fun env he s1 x => ?_
  subst he
  refine ⟨(e0.mod.nolimit.keeps fun b o e => (e0.bs b o e).1).keeps x.toInCall.keep, codeAny_func ?_⟩
  have bx : Bx (cxD pr w K mg base N qual (defScope st) f cdv A outer s H E) (WE1 E) k := ⟨hr.deeper _, hg, takes_of rfl rfl rfl rfl⟩
  have I := inv_start (CX := L2.CX pr w) (E := E) S hr.hd e0 hlv r x
  have go := (hb A outer s H E bx (passes_of rfl)).run (E := { nx := fun _ H' => Q .non H', rt := Q }) (start_rs (N := N) rv) rh hvc
    ⟨fun σ r G' m H' e1 _ rh1 q => cv .non _ G' m H' e1 rh1 (.d .non) q, fun v y G' m H' e1 rh1 rv1 q => cv v y G' m H' e1 rh1 rv1 q, fun _ _ _ _ _ _ _ _ q => q.elim, fun _ _ _ _ _ _ _ _ q => q.elim,
      fun c d fs σ r G' m H' e1 _ rh1 xf q => cx c d fs G' m H' e1 rh1 xf q⟩ [] s1 I
  have fin : ∀ {s' : Shared} {σ' : L2.St} {H' : Hp} {v : V} {u : Value}, Inv (cxD pr w K mg base N qual (defScope st) f cdv A outer s H E) [] σ' H' s' → RelV v u → Q v H' → CE outer pr w H s Q u s' :=
    fun J rv q => ⟨_, _, J.os, J.bare, J.base, J.hok, rv, q⟩
  refine wpAny_mono go (fun fl s' hs => ?_) fun e s' hs => hs
  match fl, hs with
  | .ret u, ⟨v, σ', H', J, rv, q⟩ => exact fin J rv q
  | .next, ⟨σ', H', J, q⟩ => exact fin (v := V.non) (u := Value.none) J rfl q
  | .brk, ⟨_, _, _, q⟩ => exact False.elim q
  | .cont, ⟨_, _, _, q⟩ => exact False.elim q
end

/-! ### the law's end, with tables of code objects -/
abbrev noTab : Obj := { cls := .none, data := .fields #[] }
/-- cs: code objects with their tables; T: the tables with what they tell -/
def dLawT (T : List (Addr × Str)) : DSp := fun ys m F _ => ∃ ns : List Int, ys = [.r (ns.map PyData.int)] ∧ ns.length ≤ 63 ∧ (∀ p ∈ T, m p.1 = some (.tab T)) ∧ ∀ m', F (.d (.bool true)) m'
section
variable {P : Program} {w : World} {K : PySem.W.Frag} {mg mb : Str → Option Value} {z : Shared}
/-- the abstract heap at the start: the tables, and what hS tells -/
def h0T (ts : List Addr) (S : Hp) : Hp := fun b => if b ∈ ts then some (.tbl #[]) else S b
theorem h0T_in {ts : List Addr} {S : Hp} {b : Addr} (h : b ∈ ts) : h0T ts S b = some (.tbl #[]) := if_pos h
theorem h0T_out {ts : List Addr} {S : Hp} {b : Addr} (h : b ∉ ts) : h0T ts S b = S b := if_neg h
theorem law_endT {k : Nat} {fa a : Addr} {fd : FuncData} {x : Str} {us : List Value} {ns : List Int} {cs : List (Addr × Addr)} {T : List (Addr × Str)} (eT : T.map (·.1) = cs.map (·.2))
    (KX : K.In z.heap) (hns : z.heap.Ns mainGlobals mg) (hb : z.heap.Ns builtinsNs mb) (hbb : ∀ x : Str, x ≠ "__name__" → mb x = bootBuiltins x) (hlim : z.heap.NoLimit) (hg : z.gens = #[])
    (hT : ∀ p ∈ cs, z.heap.get? p.2 = some noTab) (nT : ∀ p ∈ cs, K.lookup p.2 = none) (hC : ∀ p ∈ cs, PySem.W.CodeHd z.heap p.1 p.2)
    (hbm : ∃ (bm : Addr) (ob : Obj), mg "__builtins__" = some (.ref bm) ∧ bm ≠ builtinsNs ∧ z.heap.get? bm = some ob ∧ ob.cls = .type "module" ∧ ob.dict = some builtinsNs ∧ ob.data = .plain)
    (ha : z.heap.get? a = some { cls := .type "list", data := .seq us.toArray }) (hi : IntsAre us ns) (hl : ns.length ≤ 63) (hr : Room k callerA)
    (F : ∀ base : Heap, K.In base → base.Ns mainGlobals mg → (∀ p ∈ cs, LamX.TabB base mg p.1 p.2) → FnD P w K mg base k fa fd [x] (dLawT T)) (hbind : ∀ (s : Shared) (u : Value), BindsTo s fd ⟨[u], []⟩ [(x, u)]) :
    codeAny (model P w) callerA (.call (.ref fa) ⟨[.ref a], []⟩) (fun r s' => r = .ok (.ret (.bool true)) ∧ OldK z.heap s'.heap ∧ s'.os = z.os ∧ AllBare s'.gens) z := by
  have rv := vals_ints hi
  have lu := hi.length
  have l63 : ns.length ≤ sizeLine := Nat.le_trans hl (by decide)
  obtain ⟨ts, ets⟩ : ∃ ts, cs.map (·.2) = ts := ⟨_, rfl⟩
  have inT : ∀ p ∈ cs, p.2 ∈ ts := fun p hp => ets ▸ List.mem_map.mpr ⟨p, hp, rfl⟩
  have ofT : ∀ b ∈ ts, ∃ p ∈ cs, p.2 = b := fun b hb => List.mem_map.mp (ets ▸ hb)
  have getT : ∀ b ∈ ts, z.heap.get? b = some noTab := fun b hb => by
    obtain ⟨p, hp, rfl⟩ := ofT b hb
    exact hT p hp
  have kT : ∀ b ∈ ts, K.lookup b = none := fun b hb => by
    obtain ⟨p, hp, rfl⟩ := ofT b hb
    exact nT p hp
  have notT : ∀ {b : Addr} {o : Obj}, z.heap.get? b = some o → o.data ≠ .fields #[] → b ∉ ts := fun {b o} e d hb => by
    rw [getT b hb] at e
    cases e
    exact d rfl
  have aT : a ∉ ts := notT ha (fun q => nomatch q)
  have main : ∀ S : Hp, (∀ b, S b = none ∨ (b = a ∧ K.lookup b = none ∧ ∃ o xs, S b = some (.frz o (.lst xs)))) → SqL K (h0T ts S) a (ns.map V.int) → HOk P w (h0T ts S) z.heap →
      codeAny (model P w) callerA (.call (.ref fa) ⟨[.ref a], []⟩) (fun r s' => r = .ok (.ret (.bool true)) ∧ OldK z.heap s'.heap ∧ s'.os = z.os ∧ AllBare s'.gens) z := by
    intro S hS hq hok
    obtain ⟨H, eH⟩ : ∃ H, h0T ts S = H := ⟨_, rfl⟩
    rw [eH] at hq hok
    have hIn : ∀ b ∈ ts, H b = some (.tbl #[]) := fun b hb => by rw [← eH]; exact h0T_in hb
    have hOut : ∀ b, b ∉ ts → H b = S b := fun b hb => by rw [← eH]; exact h0T_out hb
    have hide : ∀ {b : Addr} {o : Obj}, z.heap.get? b = some o → H b = none → (hidT z.heap H).get? b = some o := fun e n => hidT_get e n
    have none_of : ∀ {b : Addr} {o : Obj}, z.heap.get? b = some o → o.data ≠ .fields #[] → (∀ vs n, o.data ≠ .seq vs n) → H b = none := fun {b o} e d1 d2 => by
      rw [hOut b (notT e d1)]
      rcases hS b with q | ⟨rfl, _, _⟩
      · exact q
      · rw [ha] at e; cases e; exact absurd rfl (d2 _ _)
    have dictFree : ∀ {b : Addr} {o : Obj} {es : Array DictEntry} {ep : Nat}, z.heap.get? b = some o → o.data = .dict es ep → H b = none := fun e d => none_of e (by rw [d]; exact fun q => nomatch q) (fun _ _ => by rw [d]; exact fun q => nomatch q)
    have nsOf : ∀ {b : Addr} {mm : Str → Option Value}, z.heap.Ns b mm → (hidT z.heap H).Ns b mm := fun {b mm} ⟨o, es, ep, e, d, q⟩ => ⟨o, es, ep, hide e (dictFree e d), d, q⟩
    have kin : K.In (hidT z.heap H) := fun b o e => hide (KX b o e) (by
      have nb : b ∉ ts := fun hb => by rw [kT b hb] at e; cases e
      rw [hOut b nb]
      rcases hS b with q | ⟨_, q, _⟩
      · exact q
      · rw [q] at e; cases e)
    have md : L2.Mod K mg (hidT z.heap H) := ⟨kin, nsOf hns, ⟨mb, nsOf hb, hbb⟩, by obtain ⟨mc, h1, h2⟩ := hlim; exact ⟨mc, nsOf h1, h2⟩⟩
    have mainNot : ∀ p ∈ cs, mainGlobals ≠ p.2 := fun p hp e => by
      obtain ⟨o, es, ep, e1, hd, _⟩ := hns
      rw [e, hT p hp] at e1
      cases e1
      cases hd
    have tb : ∀ p ∈ cs, LamX.TabB (hidT z.heap H) mg p.1 p.2 := fun p hp => by
      refine ⟨?_, ?_, mainNot p hp⟩
      · obtain ⟨o, vs, file, tf, flags, tg, inF, text, tt, e1, r1, r2, r3, rest⟩ := hC p hp
        exact ⟨o, vs, file, tf, flags, tg, inF, text, tt, hide e1 (none_of e1 (fun q => by rw [r2] at q; cases q; simp at r3) (fun _ _ q => by rw [r2] at q; cases q)), r1, r2, r3, rest⟩
      · obtain ⟨bm, ob, b1, b2, b3, b4, b5, b6⟩ := hbm
        refine ⟨bm, ob, b1, b2, fun q => ?_, fun q => ?_, hide b3 (none_of b3 (by rw [b6]; exact fun q => nomatch q) (fun _ _ => by rw [b6]; exact fun q => nomatch q)), b4, b5, b6⟩
        · obtain ⟨o, es, ep, e1, hd, _⟩ := hns
          rw [q, e1] at b3
          cases b3
          rw [hd] at b6
          cases b6
        · rw [q, hT p hp] at b3
          cases b3
          cases b6
    have e0 : Env0 P w K mg (hidT z.heap H) callerA [] z H := ⟨rfl, md, fun b o e => of_hidT e, Nat.le_of_eq (hidT_size _ _), trivial, (fun b q => nomatch q), hok, .of_eq hg⟩
    have mT : ∀ p ∈ T, p.1 ∈ ts := fun p hp => by rw [← ets, ← eT]; exact List.mem_map.mpr ⟨p, hp, rfl⟩
    have sOf : ∀ {b : Addr} {o : HO}, S b = some o → b ∉ ts → H b = some o := fun e nb => by rw [hOut _ nb]; exact e
    have rh : Rh K (fun b => if b ∈ ts then none else S b) (fun b => if b ∈ ts then some (.tab T) else none) H := by
      refine ⟨fun b o e => ?_, fun b o e => ?_, fun b o e => ?_, fun b T' e => ?_, fun b ps e => ?_⟩
      · by_cases hb : b ∈ ts
        · rw [if_pos hb] at e; cases e
        · rw [if_neg hb] at e; exact sOf e hb
      · by_cases hb : b ∈ ts
        · exact if_pos hb
        · rw [if_neg hb] at e; cases e
      · by_cases hb : b ∈ ts
        · rw [if_pos hb] at e; cases e; exact ⟨_, hIn b hb, .tab⟩
        · rw [if_neg hb] at e; cases e
      · by_cases hb : b ∈ ts
        · rw [if_pos hb] at e
          cases e
          refine ⟨?_, fun p hp => ⟨if_pos (mT p hp), #[], hIn _ (mT p hp), True.intro, fun pos cv hc => ?_⟩, fun b2 T2 e2 => ?_⟩
          · obtain ⟨p, hp, e3⟩ := List.mem_map.mp (show b ∈ T.map (·.1) by rw [eT, ets]; exact hb)
            exact ⟨p.2, by rw [← e3]; exact hp⟩
          · have hc' : codeAmong pos [] = some cv := hc
            simp [codeAmong] at hc'
          · by_cases hb2 : b2 ∈ ts
            · rw [if_pos hb2] at e2; cases e2; rfl
            · rw [if_neg hb2] at e2; cases e2
        · rw [if_neg hb] at e; cases e
      · by_cases hb : b ∈ ts
        · rw [if_pos hb] at e; cases e
        · rw [if_neg hb] at e
          rcases hS b with q | ⟨_, _, o, xs, q⟩ <;> rw [q] at e <;> cases e
    have hqG : SqL K (fun b => if b ∈ ts then none else S b) a (ns.map V.int) := by
      have ea : H a = (fun b => if b ∈ ts then none else S b) a := by rw [hOut a aT]; exact (if_neg aT).symm
      unfold SqL Rd at hq ⊢
      rw [← ea]
      exact hq
    have want : cz K (dLawT T) [.ref a] H (fun v _ => v = .bl true) (fun _ _ _ => False) :=
      ⟨_, _, [.r (ns.map PyData.int)], fun y _ => y = .d (.bool true), P0, rh, .cons (.r hqG (DaAll.ints ns)) .nil, ⟨ns, rfl, hl, fun p hp => if_pos (mT p hp), fun _ => rfl⟩,
        fun v y G' m' H' _ _ rv q => by subst q; exact rv.bl, fun _ _ _ _ _ _ _ _ _ q => q.elim⟩
    refine codeAny_mono ((F _ kin (nsOf hns) tb).run callerA [] z H ⟨[.ref a], []⟩ [.ref a] [.ref a] _ _ rfl hr e0 (hbind z (.ref a)) (.cons rfl .nil) want) fun r s' h => ?_
    match r, h with
    | .error e, ⟨_, _, _, _, _, _, _, _, _, _, _, _, q⟩ => exact q.elim
    | .ok .next, h => exact False.elim h
    | .ok .brk, h => exact False.elim h
    | .ok .cont, h => exact False.elim h
    | .ok (.ret u), ⟨v, H', os, bare, un, hok', r', q⟩ =>
      have q' : v = .bl true := q
      subst q'
      obtain rfl : u = Value.bool true := r'
      have key : ∀ b o, b ∉ ts → z.heap.get? b = some o → s'.heap.get? b = some o := fun b o nb e => by
        rcases hS b with q | ⟨_, _, ob, xs, q⟩
        · exact un.keep b o e (by rw [hOut b nb]; exact q) (fun y => nomatch y) (fun y => nomatch y)
        · have q2 := sOf q nb
          obtain ⟨e1, _⟩ := hok b _ q2
          obtain ⟨e2, _⟩ := hok' b _ (un.frzs b ob _ q2)
          rw [e] at e1
          cases e1
          exact e2
      have grown : ∀ b ∈ ts, ∃ more : Array Value, s'.heap.get? b = some { cls := .none, data := .fields more } := fun b hb => by
        obtain ⟨more, y⟩ := un.tbls b #[] (hIn b hb)
        exact ⟨_, hok' b _ y⟩
      refine ⟨rfl, ⟨fun b o e => ?_, fun b o e => ?_⟩, os, bare⟩
      · by_cases hb : b ∈ ts
        · obtain ⟨more, hm⟩ := grown b hb
          obtain ⟨p, hp, rfl⟩ := ofT b hb
          rw [hT p hp] at e
          cases e
          exact .inr (.inl ⟨((hC p hp).tab (hT p hp)).isCodeTable, rfl, #[], more, rfl, by rw [Array.empty_append]; exact hm⟩)
        · exact .inl (key b o hb e)
      · by_cases hb : b ∈ ts
        · obtain ⟨more, hm⟩ := grown b hb
          exact ⟨_, hm⟩
        · exact ⟨o, key b o hb e⟩
  cases hk : K.lookup a with
  | some o =>
    have e := KX a o hk
    rw [ha] at e
    cases e
    refine main (fun _ => none) (fun _ => .inl rfl) (.inr ⟨_, us.toArray, _, hk, rfl, rfl, rfl, by rw [List.size_toArray, lu]; exact l63, by simpa using rv⟩) fun b u q => ?_
    by_cases hb : b ∈ ts
    · rw [h0T_in hb] at q; cases q; exact getT b hb
    · rw [h0T_out hb] at q; cases q
  | none =>
    refine main (fun b => if b = a then some (.frz { cls := .type "list", data := .seq us.toArray } (.lst (ns.map V.int))) else none) (fun b => ?_) (.inl (.inr ⟨{ cls := .type "list", data := .seq us.toArray }, by rw [h0T_out aT]; exact if_pos rfl⟩)) (fun b u q => ?_)
    · by_cases hba : b = a
      · subst hba
        exact .inr ⟨rfl, hk, _, _, if_pos rfl⟩
      · exact .inl (if_neg hba)
    · by_cases hb : b ∈ ts
      · rw [h0T_in hb] at q; cases q; exact getT b hb
      · rw [h0T_out hb] at q
        by_cases hba : b = a
        · subst hba
          have q' := (if_pos rfl).symm.trans q
          cases q'
          exact ⟨ha, by rw [List.length_map]; exact l63, us, _, rv, ha⟩
        · have q' := (if_neg hba).symm.trans q
          cases q'
end
theorem tab_mk {K : PySem.W.Frag} {x : Str} {f c Pt : Addr} {oc oa : Value} {od ob : Option Addr} {fd : FuncData} {sl sb : Array (Option Value)} {vs : Array Value} (h1 : PySem.W.nsIn K mainGlobals x = some (some (.ref f))) (h2 : K.lookup f = some ⟨oc, od, .func fd, sl⟩) (h3 : fd.code = .ref c)
    (h4 : K.lookup c = some ⟨oa, ob, .fields vs, sb⟩) (h5 : vs[11]? = some (.ref Pt)) : PySem.W.tabIn K x = some (c, Pt) := by
  unfold PySem.W.tabIn
  rw [h1]
  dsimp only
  rw [h2]
  dsimp only
  rw [h3]
  dsimp only
  rw [h4]
  dsimp only
  rw [h5]
theorem funC_mk {K : PySem.W.Frag} {x qual : Str} {st : Stmt} {f : Addr} {oc : Value} {od an : Option Addr} {osl : Array (Option Value)} {kV doc pm cdv ct : Value} (l : K.lookup f = some ⟨oc, od, .func (PySem.W.fnOf x qual (defArgs st) (defBody st) (defScope st) .none kV doc pm an cdv ct), osl⟩)
    (c : PySem.W.codeIn K cdv qual = true) (k : PySem.W.keepIn K (.ref f) = true) : FunC K x qual st f (PySem.W.fnOf x qual (defArgs st) (defBody st) (defScope st) .none kV doc pm an cdv ct) cdv := ⟨⟨oc, od, kV, doc, pm, an, ct, osl, rfl, l, c⟩, k⟩
/-- walk_d for a law that makes lambdas: cs, its defs that make them, by name -/
theorem walk_dT {l : PySem.W.OpenLaw} {k : Nat} {q : Program} {loose : List Str} {XP : (Str → Option Value) → Heap → Prop} {YP : World → Heap → Prop} {d : DefRec} {K : Params → PySem.W.Frag} {x : Str}
    (hn : l.most = some 63) (hdf : d.params.defaults = []) (hr : Room k callerA) (hY : ∀ (w : World) (h : Heap), YP w h → (K w.params).In h)
    (F : ∀ (w : World) (mg : Str → Option Value) (fa : Addr) (h : Heap), (K w.params).In h → h.Ns mainGlobals mg → mg d.name = some (.ref fa) →
      ∃ (fd : FuncData) (cs : List (Str × Addr × Addr)) (T : List (Addr × Str)), T.map (·.1) = cs.map (·.2.2) ∧ (∀ p ∈ cs, (K w.params).lookup p.2.2 = none ∧ PySem.W.tabIn (K w.params) p.1 = some p.2 ∧ ((recsOf q).find? fun e => e.name == p.1).isSome = true) ∧
        (∀ (s : Shared) (u : Value), BindsTo s fd ⟨[u], []⟩ [(x, u)]) ∧ ∀ base : Heap, (K w.params).In base → base.Ns mainGlobals mg → (∀ p ∈ cs, LamX.TabB base mg p.2.1 p.2.2) → FnD l.prog w (K w.params) mg base k fa fd [x] (dLawT T)) :
    PySem.W.WalkO q loose XP YP l.row.toRowW d [] (fun f vs => PySem.call f vs) := by
  refine Att.attach_call hn hdf fun w s₀ s₁ mg mb fa o pm cd doc a vs ns G Y ho hd hcd hmg hobj hints hlen hg => ?_
  have kx := hY w _ Y
  obtain ⟨fd, cs, T, eT, hcs, hb, hF⟩ := F w mg fa _ kx G.T.g hmg
  have all : ∀ p ∈ cs, PySem.W.CodeHd s₁.heap p.2.1 p.2.2 ∧ s₁.heap.get? p.2.2 = some noTab := fun p hp => by
    obtain ⟨_, h2, h3⟩ := hcs p hp
    obtain ⟨r, hr⟩ := Option.isSome_iff_exists.mp h3
    exact PySem.W.tab_of (c := p.2.1) (P := p.2.2) G.T kx hr h2
  have mem : ∀ p ∈ cs.map (·.2), ∃ y ∈ cs, y.2 = p := fun p hp => List.mem_map.mp hp
  refine law_endT (cs := cs.map (·.2)) (T := T) (by rw [eT, List.map_map]; rfl) kx G.T.g G.T.b G.T.builtins G.T.nolimit hg (fun p hp => ?_) (fun p hp => ?_) (fun p hp => ?_) G.T.bmain hobj hints hlen hr (fun base h1 h2 h3 => hF base h1 h2 fun y hy => h3 _ (List.mem_map.mpr ⟨y, hy, rfl⟩)) hb
  · obtain ⟨y, hy, rfl⟩ := mem p hp; exact (all y hy).2
  · obtain ⟨y, hy, rfl⟩ := mem p hp; exact (hcs y hy).1
  · obtain ⟨y, hy, rfl⟩ := mem p hp; exact (all y hy).1
end Dl
/-! D33: an own exception whose __init__ says super().__init__(f"..{n}") and keeps n: raise X(n). -/
namespace Dl
open PySem PySem.Spec PyProof.Rows L2 Evl

section
variable {X : Cx} {pins : List (Addr × Obj)} {σ : L2.St} {H : Hp} {s : Shared} {a u C D : Addr} {us : List Value}
/-- ValueError.__init__, bound to an exception that is being made: nothing of it is told -/
theorem call_mw {Q : Value → Shared → Prop} {E : Value → Shared → Prop} (T : OexC X.K C) (I : Inv X pins σ H s) (e : H a = some (exo a C none)) (hu : s.heap.get? u = some (PySem.W.kxs_mw "ValueError.__init__" a)) (hl : us.length ≤ sizeLine)
    (h : ∀ s', Inv X pins σ H s' → Q .none s') : wpAny (model X.prog X.w) X.A (call (.ref u) us) Q E s := by
  obtain ⟨nm, q, N, bs, bm, sn, sub, ab, col, dd, k0, k1, k2, k3, k5, hC, hbm⟩ := T.cls
  obtain ⟨t1, ho⟩ := exo_at I.hok e
  have eu : upd H a (exo a C none) = H := by
    funext b
    by_cases hb : b = a
    · rw [hb, upd_same, e]
    · rw [upd_ne hb]
  obtain ⟨hp, g, d, t, os⟩ := s
  have fin : ∀ h', (∀ b o, b ≠ a → hp.get? b = some o → h'.get? b = some o) → h'.get? a = some (PySem.W.excObj C hp.objs.size none .none) → h'.get? hp.objs.size = some (PySem.W.excTup us) → Q .none ⟨h', g, d, t, os⟩ := fun h' k hx _ => by
    have J := I.write (t' := t) (x := a) (e := a) (o := exo a C none) (by rw [e]; exact True.intro) (.inl rfl) k ⟨_, hx⟩ (exo_ok hx)
    rw [eu] at J
    exact h _ J
  refine wpAny_call (codeAny_of_tree ?_)
  show wpAny _ X.A.in1 (callAny (.ref u) ⟨us, []⟩) _ _ _
  simp only [callAny]
  refine wpAny_bind (wpAny_load hu ?_)
  simp only [PySem.W.kxs_mw, show (Value.type "method-wrapper" == Value.type "method" || Value.type "method-wrapper" == Value.type "builtin_function_or_method" || Value.type "method-wrapper" == Value.type "method-wrapper") = true by decide, if_true]
  refine PySem.W.KFB.if_so (by decide) ?_
  refine wpAny_bind (PySem.W.check_bound_init PySem.F.excBase_ValueError.toExcCallFacts (I.kIn _ _ hC) ho rfl ?_)
  refine wpAny_bind (wpAny_pure (wpAny_pure ?_))
  refine ⟨PySem.plainId_quiet PySem.F.excBase_ValueError.init.plain _, codeAny_builtin PySem.F.excBase_ValueError.initEntry ?_⟩
  exact PySem.W.exc_init_tree (cls := .ref C) (t0 := t1) (dv := none) (c2 := .none) (c3 := .none) (b4 := .bool false) ho hl fin
/-- what super() finds of __init__ from the class D, of an exception of C -/
structure SupX (K : PySem.W.Frag) (C D : Addr) : Prop where
  hC : ∃ cd, PySem.W.clsIn K C = some cd
  hD : ∃ cd, PySem.W.clsIn K D = some cd
  sub : PySem.W.mroIn K C (.ref D) = some true
  at_ : PySem.W.ks_superIn K C D "__init__" = some (some (.builtin "ValueError.__init__"))
  isv : PySem.W.subIn K (.ref C) (.type "ValueError") = some true
  op : PySem.W.nsIn K cStatics "thirdparty.any" = some none
variable {bd : List Stmt} {i : Nat} {f cc : Addr} {fd : FuncData} {cdv : Value} {p0 p1 apos pos : Pos} {e : Expr} {te : TE}
theorem sup_exc {pl : Sem Bool} {Q : VK} (hsup : Gl X "super") (hms : X.mg "super" = none) (hcl : X.env.kindOf clsN = some .free) (hfu : X.env.func = some f) (hcd : X.env.code = cdv) (S : SupFact X.prog X.K f fd cdv cc D) (hcc : X.env.cells.lookup clsN = some cc)
    (hsf : X.N[i]? = some ("self" : Str)) (hv : Vis X.env.scope "self") (T : SupX X.K C D) (O : OexC X.K C) (he : PE X e te) (hx : te σ H fun z H1 => [z].length = 1 ∧ H1 a = some (exo a C none) ∧ Q .non H1) (I : Inv X pins σ H s) (hσ : σ[i]? = some (some (.ref a)))
    (ha0 : H a = some (exo a C none))
    (hst : starEach [e] X.env = (false, eval e X.env) :: starEach [] X.env := by rfl)
    (ht : eval (.Call (.Attribute (.Call (.Name "super" p0) [] [] p1) "__init__" apos) [e] [] pos) X.env = (attributeBase (.Call (.Name "super" p0) [] [] p1) "__init__" X.env (eval (.Call (.Name "super" p0) [] [] p1) X.env) >>= fun ov => standAt apos.atName >>= fun _ => holding [ov] (getMethod ov "__init__" pl) >>= fun z =>
      callWith pos z.1 z.2 (backTo pos (starEach [e] X.env)) []) := by rfl) :
    PySem.wpAt (model X.prog X.w) X.A (.func bd X.env) (eval (.Call (.Attribute (.Call (.Name "super" p0) [] [] p1) "__init__" apos) [e] [] pos) X.env) (EP X pins σ Q) X.xe s := by
  obtain ⟨oc, od, osl, hlk⟩ := S.lk
  obtain ⟨ar, har, hself⟩ := S.ar
  obtain ⟨cda, ocd, vs, file, tf, rfl, hcda, hvs, hfile, hff⟩ := S.code
  obtain ⟨ocl, hcell, hcv⟩ := S.cell
  obtain ⟨cdC, hC⟩ := T.hC
  obtain ⟨cdD, hD⟩ := T.hD
  have KX := I.kIn
  refine ks_wpAt_MethodCall (pl := pl) (ks_wpAt_super_base hsup hcl (by decide) hfu (KX _ _ hlk) rfl har hcd (KX _ _ hcda) hvs hfile hff S.nosup ?_) ht
  have hkind := I.ok.kind
  obtain ⟨mb, hmb, hbb⟩ := I.mod.blt
  refine PySem.W.ks_loadName_global hkind hsup (Calls.loadGlobal_builtin (mg := X.mg) (mb := mb) (v := .type "super") (by rw [I.ok.glob]; exact I.mod.glob.keeps I.bk) hms (by rw [I.ok.blt]; exact hmb.keeps I.bk) ((hbb _ (by decide)).trans Boot.super) ⟨rfl, ?_⟩)
  refine wpAny_loadName_free hkind hcl hcc ⟨ocl, KX _ _ hcell, hcv⟩ ?_
  have hD' : ∃ oD, X.K.lookup D = some oD ∧ oD.data = .cls cdD := by
    unfold PySem.W.clsIn at hD
    split at hD
    · rename_i heq
      cases hD
      exact ⟨_, heq, rfl⟩
    · cases hD
  obtain ⟨oD, hoD, hdD⟩ := hD'
  obtain ⟨t1, hoa⟩ := exo_at I.hok ha0
  have J : PySem.W.InstAt s.heap a _ C none := ⟨hoa, rfl, rfl, trivial⟩
  have after : wpAny (model X.prog X.w) X.A (PySem.isType (.ref D)) (fun b s4 => b = true ∧ wpAny (model X.prog X.w) X.A (call (.type "super") [.ref D, .ref a]) (fun ov s₁ => wpAny (model X.prog X.w) X.A (getMethod ov "__init__" pl) (fun fx s₂ => wpAny (model X.prog X.w) X.A (callWith pos fx.fst fx.snd (backTo pos (starEach [e] X.env)) []) (EP X pins σ Q) X.xe s₂) X.xe s₁) X.xe s4) X.xe s := by
    refine ks_wpAny_isType_cls (KX _ _ hoD) hdD ⟨rfl, ?_⟩
    refine ks_wpAny_call_super (KX _ _ hoD) hdD J.at_ J.cls (fun c hc => ?_) (PySem.W.looks_mroIn KX T.sub) fun h' hso keep => ?_
    · have := J.no
      unfold PySem.W.notCls at this
      rw [hc] at this
      cases this
    · have I1 := I.kept (t' := s.toks) keep
      have l1 : PySem.W.Looks (model X.prog X.w) h' (mroOf (.ref C)) cdC.mro := by
        intro A' Q' E' s' hk hq
        show wpAny _ _ (classData C >>= fun c => pure c.mro) _ _ _
        exact wpAny_bind (PySem.W.looks_clsIn (I1.kIn) hC A' _ E' s' hk (wpAny_pure hq))
      have halong : PySem.W.alongIn X.K "__init__" (List.drop 1 (List.dropWhile (fun x => x != Value.ref D) cdC.mro)) = some (some (.builtin "ValueError.__init__")) := by
        have h := T.at_
        unfold PySem.W.ks_superIn at h
        rw [hC] at h
        exact h
      have J1 : PySem.W.InstAt h' a _ C none := ⟨keep _ _ hoa, rfl, rfl, trivial⟩
      have hI : PySem.W.Looks (model X.prog X.w) h' (isInstance (.ref a) (.type "ValueError")) true := J1.type.andThen (PySem.W.looks_subIn I1.kIn T.isv)
      refine PySem.W.kxs_getMethod PySem.W.kxs_ValueError hso (PySem.W.looks_opaque I1.kIn T.op) l1 rfl I1.kIn halong hI (PySem.W.ks_ne KX J hC) (by decide) ?_
      have I2 := I1.kept (h' := h'.push (PySem.W.kxs_mw "ValueError.__init__" a)) (t' := s.toks + 1) fun b o e => Heap.get?_push_of_some _ e
      have hq2 : (h'.push (PySem.W.kxs_mw "ValueError.__init__" a)).get? h'.objs.size = some (PySem.W.kxs_mw "ValueError.__init__" a) := Heap.get?_push_size _ rfl
      have I3 := pin_in I2 hq2 ⟨I1.fresh, Nat.ne_of_gt I1.lt, I1.nofs (Nat.le_refl _)⟩ (fun v h => by cases h)
      refine PySem.W.kxs_callWith (i := "ValueError.__init__") (x := a) (by rw [hst]; rfl) ?_
      have hb' := (pa_cons he pa_nil hst).run pos _ _ σ H (fun vs H1 => vs.length = 1 ∧ H1 a = some (exo a C none) ∧ Q .non H1) I3 hx
      rw [hst] at hb' ⊢
      refine PySem.Calls.evalArgs_plain (thn hb' fun us s2 ⟨vs, H2, I4, r2, hlen, q2, q3⟩ => ?_)
      obtain ⟨I5, hu⟩ := pin_out I4
      refine ⟨hu, call_mw O I5 q2 hu ?_ fun s' J2 => ⟨.non, H2, J2, rfl, q3⟩⟩
      show us.length ≤ _
      rw [← r2.length, hlen]
      decide
  obtain ⟨m0, hm, hlook⟩ := I.loc
  obtain ⟨u, ru, lk⟩ := hlook i "self" (.ref a) hsf hσ hv
  obtain rfl : u = Value.ref a := ru
  rw [hself]
  rcases lk with ⟨k1, k2⟩ | ⟨k1 | k1, c, k2, k3⟩
  · exact wpAny_loadName_local hkind k1 hm k2 after
  · exact wpAny_loadName_cell hkind k1 k2 k3 after
  · exact wpAny_loadName_free hkind k1 k2 k3 after
end

/-! ### such an __init__ -/
/-- the def at f, an __init__(self, ..) of an own exception class, keeps the number as its field -/
structure FnL (pr : Program) (w : World) (K : PySem.W.Frag) (mg : Str → Option Value) (base : Heap) (k : Nat) (f : Addr) (fd : FuncData) (C : Addr) (pn fld : Str) : Prop where
  run : ∀ (A : Around) (outer : List Env) (s : Shared) (H : Hp) (args : Args) (a : Addr) (n : Int) (u : Value) (Q : VK), Room k A → Env0 pr w K mg base A outer s H → BindsTo s fd args [("self", .ref a), (pn, u)] → RelV (.int n) u → n.natAbs.log2 < 1920 →
    H a = some (exo a C none) → (∀ dx, H dx = none → dx ≠ a → Q .non (upd (upd H dx (exd dx [(fld, .int n)])) a (exo a C (some dx)))) → codeAny (model pr w) A (.call (.ref f) args) (CR (L2.CX pr w) outer pr w H s Q Eno) s
theorem FnL.mono {pr : Program} {w : World} {K : PySem.W.Frag} {mg : Str → Option Value} {base : Heap} {j k : Nat} {f C : Addr} {fd : FuncData} {pn fld : Str} (F : FnL pr w K mg base j f fd C pn fld) (h : j ≤ k) : FnL pr w K mg base k f fd C pn fld :=
  ⟨fun A outer s H args a n u Q hr => F.run A outer s H args a n u Q (hr.mono h)⟩
section
variable {pr : Program} {w : World} {K : PySem.W.Frag} {mg : Str → Option Value} {base : Heap} {x qual : Str} {st : Stmt} {f cc C D : Addr} {fd : FuncData} {cdv : Value} {k j : Nat} {pn fld tx : Str} {p0 p1 p2 p3 p4 p5 p6 p7 p8 p9 p10 p11 p12 : Pos}
theorem int_txt {n : Int} (h : n.natAbs.log2 < 1920) : (Str.ofString (toString n)).length ≤ 2000 := by
  have z := int_text_length_le (by decide) h
  rw [PySem.ofString_length]
  omega
/-- the first line of such an __init__ -/
theorem sup_st {X : Cx} {pl : Sem Bool} {bd : List Stmt} {s : Shared} {H : Hp} {a : Addr} {n : Int} (F : SupFact X.prog X.K f fd cdv cc D) (T : SupX X.K C D) (O : OexC X.K C) (hN : X.N = [("self" : Str), pn]) (hn : n.natAbs.log2 < 1920) (htx : tx.length ≤ 2000) (hms : X.mg "super" = none)
    (I : Inv X [] (L2.start ["self", pn] [V.ref a, V.int n]) H s) (hea : H a = some (exo a C none)) (hpn : X.env.scope.names.lookup pn = some .local) (hself : X.env.scope.names.lookup ("self" : Str) = some .local) (hsup : Gl X "super" := by rfl) (hcl : X.env.kindOf clsN = some .free := by rfl) (hfu : X.env.func = some f := by rfl)
    (hcd : X.env.code = cdv := by rfl) (hcc : X.env.cells.lookup clsN = some cc := by rfl)
    (hst : starEach [.JoinedStr [.Constant (.str tx) j p3, .FormattedValue (.Name pn p4) (-1) none p5] p6] X.env = (false, eval (.JoinedStr [.Constant (.str tx) j p3, .FormattedValue (.Name pn p4) (-1) none p5] p6) X.env) :: starEach [] X.env := by rfl)
    (ht : eval (.Call (.Attribute (.Call (.Name "super" p0) [] [] p1) "__init__" p2) [.JoinedStr [.Constant (.str tx) j p3, .FormattedValue (.Name pn p4) (-1) none p5] p6] [] p7) X.env = (attributeBase (.Call (.Name "super" p0) [] [] p1) "__init__" X.env (eval (.Call (.Name "super" p0) [] [] p1) X.env) >>= fun ov => standAt p2.atName >>= fun _ => holding [ov] (getMethod ov "__init__" pl) >>= fun z =>
      callWith p7 z.1 z.2 (backTo p7 (starEach [.JoinedStr [.Constant (.str tx) j p3, .FormattedValue (.Name pn p4) (-1) none p5] p6] X.env)) []) := by rfl)
    (hi : interactive X.env = false := by rfl) (hs : swapsWith (.Call (.Attribute (.Call (.Name "super" p0) [] [] p1) "__init__" p2) [.JoinedStr [.Constant (.str tx) j p3, .FormattedValue (.Name pn p4) (-1) none p5] p6] [] p7) none p8.line X.env = pure false := by rfl)
    (hd1 : (pn == ("__debug__" : Str)) = false := by decide) (hd2 : (pn == ("__classdict__" : Str)) = false := by decide) :
    PySem.wpAt (model X.prog X.w) X.A (.func bd X.env) (exec (.Expr (.Call (.Attribute (.Call (.Name "super" p0) [] [] p1) "__init__" p2) [.JoinedStr [.Constant (.str tx) j p3, .FormattedValue (.Name pn p4) (-1) none p5] p6] [] p7) p8) X.env)
      (fun fl s2 => fl = .next ∧ Inv X [] (L2.start ["self", pn] [V.ref a, V.int n]) H s2) X.xe s := by
  have hnm : PE X (.Name pn p4) (tVar 1) := pe_var (by rw [hN]; rfl) (.inl hpn) hd1 hd2
  refine ks_wpAt_Expr_any (ks_wpAt_mono (sup_exc (X := X) (Q := fun _ H1 => H1 = H) (i := 0) hsup hms hcl hfu hcd F hcc (by rw [hN]; rfl) (.inl hself) T O (pe_joined (.cons pe_str (.cons (pe_fmt hnm) .nil))) ?_ I rfl hea hst ht) (fun v s2 hv => ?_) fun _ _ q => q) hi hs
  · have e1 : (Str.empty ++ tx).length = tx.length := by rw [PySem.Str.empty_append]
    refine ⟨tx, rfl, Nat.le_trans (by rw [e1]; omega) szl, .int n, rfl, .inr ⟨n, rfl, hn, _, rfl, ?_, rfl, hea, rfl⟩⟩
    have z := int_txt hn
    refine Nat.le_trans ?_ szl
    rw [PySem.Str.length_append, e1]
    omega
  · obtain ⟨v2, H2, I2, _, e⟩ := hv
    cases e
    exact ⟨rfl, I2⟩
theorem SFun.lim {st1 st2 : Stmt} (F : SFun pr K x qual st f fd cdv cc D) (S : SupScope ["self", pn] ["self", pn] (defScope st)) (hb : defBody st = [st1, st2]) (O : OexC K C) (hno : PySem.W.findIn K (.ref C) fld = some none)
    (hs1 : (defScope st).names.lookup ("self" : Str) = some .local) (hs2 : (defScope st).names.lookup pn = some .local)
    (h1 : ∀ (A : Around) (outer : List Env) (s s1 : Shared) (H : Hp) (a : Addr) (n : Int), n.natAbs.log2 < 1920 → Inv (cxS pr w K mg base ["self", pn] qual (defScope st) f cdv cc A outer s H Eno) [] (L2.start ["self", pn] [V.ref a, V.int n]) H s1 → H a = some (exo a C none) →
      PySem.wpAt (model pr w) (cxS pr w K mg base ["self", pn] qual (defScope st) f cdv cc A outer s H Eno).A (.func [st1, st2] (cxS pr w K mg base ["self", pn] qual (defScope st) f cdv cc A outer s H Eno).env) (exec st1 (cxS pr w K mg base ["self", pn] qual (defScope st) f cdv cc A outer s H Eno).env)
        (fun fl s2 => fl = .next ∧ Inv (cxS pr w K mg base ["self", pn] qual (defScope st) f cdv cc A outer s H Eno) [] (L2.start ["self", pn] [V.ref a, V.int n]) H s2) (cxS pr w K mg base ["self", pn] qual (defScope st) f cdv cc A outer s H Eno).xe s1)
    (h2 : ∀ (A : Around) (outer : List Env) (s : Shared) (H : Hp), PS (cxS pr w K mg base ["self", pn] qual (defScope st) f cdv cc A outer s H Eno) st2 (tOst K fld (tVar 0) (tVar 1))) : FnL pr w K mg base (k + 1) f fd C pn fld := by
  obtain ⟨oc, od, kV, doc, pm, an, ct, osl, rfl, lk, hcd⟩ := F.ex
  obtain ⟨ocl, hcc, hoc⟩ := F.sf.cell
  refine ⟨fun A outer s H args a n u Q hr e0 hbd ru hn hea hq => ?_⟩
  have KX : K.In s.heap := e0.mod.kin.keeps fun b o e => (e0.bs b o e).1
  have rv : Vals [V.ref a, V.int n] [Value.ref a, u] := .cons rfl (.cons ru .nil)
  have hkind : ∀ y ∈ [("self" : Str), pn].zip [Value.ref a, u], (defScope st).names.lookup y.1 = some .local ∨ ((defScope st).names.lookup y.1 = some .cell ∧ ((cellsFrom (s.heap.objs.size + 1) (defScope st).names []).lookup y.1).isSome = true) := by
    rintro ⟨y, v⟩ hy
    have hy1 := (List.of_mem_zip hy).1
    rcases List.mem_cons.mp hy1 with h | h
    · exact .inl (h ▸ hs1)
    · exact .inl (List.mem_singleton.mp h ▸ hs2)
  refine codeAny_call_function hr.depth (KX _ _ lk) rfl S.fs.co S.fs.gen rfl (PySem.W.codeRec_of KX hcd) (hbd _ _ _ _ ?_)
  refine newFn_cl S.fs.kind hkind fun s1 x => ?_
  refine ⟨(e0.mod.nolimit.keeps fun b o e => (e0.bs b o e).1).keeps x.toInCall.keep, ks_codeAny_funcAt ?_⟩
  have I := inv_sup (qual := qual) (f := f) (cd := cdv) (E := Eno) (N := ["self", pn]) (ps := ["self", pn]) S hr.hd e0 rfl rv hcc hoc x
  have go : PySem.wpAt (model pr w) (cxS pr w K mg base ["self", pn] qual (defScope st) f cdv cc A outer s H Eno).A (.func (defBody st) (cxS pr w K mg base ["self", pn] qual (defScope st) f cdv cc A outer s H Eno).env) (execs (defBody st) (cxS pr w K mg base ["self", pn] qual (defScope st) f cdv cc A outer s H Eno).env)
      (SP (cxS pr w K mg base ["self", pn] qual (defScope st) f cdv cc A outer s H Eno) [] { nx := fun _ H' => Q .non H', rt := Q }) (cxS pr w K mg base ["self", pn] qual (defScope st) f cdv cc A outer s H Eno).xe s1 := by
    rw [hb]
    refine ks_wpAt_execs_cons (ks_wpAt_mono (h1 A outer s s1 H a n hn I hea) (fun fl s2 hv => ?_) fun _ _ q => q)
    obtain ⟨rfl, I2⟩ := hv
    exact wpAt_of_wpAny ((pss_one (h2 A outer s H)).run [] s2 _ _ _ I2 ⟨.int n, rfl, .ref a, rfl, a, C, rfl, O, hno, .inl ⟨hea, fun dx h1 h2 => hq dx h1 h2⟩⟩)
  have fin : ∀ {s' : Shared} {σ' : L2.St} {H' : Hp} {v : V} {u : Value}, Inv (cxS pr w K mg base ["self", pn] qual (defScope st) f cdv cc A outer s H Eno) [] σ' H' s' → RelV v u → Q v H' → CE outer pr w H s Q u s' :=
    fun J rv q => ⟨_, _, J.os, J.bare, J.base, J.hok, rv, q⟩
  refine ks_wpAt_mono go (fun fl s' hs => ?_) fun e s' hs => hs
  match fl, hs with
  | .ret u, ⟨v, σ', H', J, rv, q⟩ => exact fin J rv q
  | .next, ⟨σ', H', J, q⟩ => exact fin (v := V.non) (u := Value.none) J rfl q
  | .brk, ⟨_, _, _, q⟩ => exact False.elim q
  | .cont, ⟨_, _, _, q⟩ => exact False.elim q
end
end Dl
/-! D34: raise X(n) of such a class; several except clauses that name the exception. -/
namespace Dl
open PySem PySem.Spec PyProof.Rows L2 Evl

/-- what is known of the class -/
structure LimC (K : PySem.W.Frag) (mg : Str → Option Value) (x : Str) (C fI : Addr) : Prop where
  ox : OexC K C
  gC : mg x = some (.ref C)
  init : PySem.W.findIn K (.ref C) "__init__" = some (some (.ref fI))
  ty : PySem.W.typeIn K (.ref fI) = some (.type "function")
section
variable {X : Cx} {W : WX} {C fI : Addr} {k : Nat} {fd : FuncData} {pn fld x : Str} {e : Expr} {te : XE} {p pos pos' : Pos}
/-- C(n), to be raised -/
theorem pmk_lim (T : LimC X.K X.mg x C fI) (F : FnL X.prog X.w X.K X.mg X.base k fI fd C pn fld) (hr : Room (k + 1) X.A) (hb : Binds X.K fd ["self", pn] []) (hg : Gl X x) (hdb : (x == ("__debug__" : Str)) = false := by decide)
    (hst : starEach [e] X.env = (false, eval e X.env) :: starEach [] X.env := by rfl) :
    PMk X (.Call (.Name x p) [e] [] pos) (fun σ H Q => SE X e σ H fun v H1 => ∃ n : Int, v = .int n ∧ n.natAbs.log2 < 1920 ∧ ∀ d, H1 d = none → Q (.ref C) (some d) (upd H1 d (.xd [(fld, .int n)]))) := by
  intro pins s σ H Q I h
  obtain ⟨nm, q, N, bs, bm, sn, sub, ab, col, dd, k0, k1, k2, k3, k5, hC, hbm⟩ := T.ox.cls
  refine wpAny_Call_Name_kw (ld_glob I hg T.gC ?_ hdb)
  refine PySem.W.callWith_K (h₀ := X.base) I.ok.mod.kin T.ox.kC (thn ((pa_cons se_pe pa_nil hst).run pos pins s σ H (fun vs H1 => ∃ v, vs = [v] ∧ ∃ n : Int, v = .int n ∧ n.natAbs.log2 < 1920 ∧ ∀ d, H1 d = none → Q (.ref C) (some d) (upd H1 d (.xd [(fld, .int n)]))) I ?_) fun us s1 ⟨vs, H1, I1, r1, v, ev, n, en, hn, q1⟩ => ⟨I1.kIn, ?_⟩) hst rfl
  · exact fun pins' s' I' => thn (h pins' s' I') fun u s1 ⟨v, H1, I1, r, q⟩ => ⟨v, H1, I1, r, v, rfl, q⟩
  subst ev en
  obtain ⟨u, rfl, ru⟩ := r1.one
  show wpAny _ _ (call (.ref C) [u]) _ _ _
  obtain ⟨hp, g, dr, tk, os⟩ := s1
  have hsz : hp.objs.size ≤ hp.objs.size + 1 := Nat.le_succ _
  have hn1 : H1 (hp.objs.size + 1) = none := I1.hok.fresh hsz
  have kk : ∀ b o, hp.get? b = some o → ((hp.push (PySem.W.kdv_tup [u])).push (PySem.HandSPX.excO C hp.objs.size)).get? b = some o := fun b o e => Heap.get?_push_of_some _ (Heap.get?_push_of_some _ e)
  have hget : ((hp.push (PySem.W.kdv_tup [u])).push (PySem.HandSPX.excO C hp.objs.size)).get? (hp.objs.size + 1) = some (PySem.HandSPX.excO C hp.objs.size) := by heap_get
  have I2 : Inv X pins σ (upd H1 (hp.objs.size + 1) (exo (hp.objs.size + 1) C none)) ⟨(hp.push (PySem.W.kdv_tup [u])).push (PySem.HandSPX.excO C hp.objs.size), g, dr, tk, os⟩ :=
    I1.laid (t' := tk) (a := hp.objs.size + 1) (o := exo (hp.objs.size + 1) C none) (h' := (hp.push (PySem.W.kdv_tup [u])).push (PySem.HandSPX.excO C hp.objs.size)) kk hsz (exo_ok hget)
  have hbd := hb _ [Value.ref (hp.objs.size + 1), u] I2.kIn rfl
  have run := F.run (X.A.under (.builtin "type.__call__" ⟨.ref C :: [u], []⟩)) X.stack _ _ ⟨[Value.ref (hp.objs.size + 1), u], []⟩ (hp.objs.size + 1) n u
    (fun v H2 => v = .non ∧ ∃ d, H1 d = none ∧ d ≠ hp.objs.size + 1 ∧ H2 = upd (upd (upd H1 (hp.objs.size + 1) (exo (hp.objs.size + 1) C none)) d (exd d [(fld, .int n)])) (hp.objs.size + 1) (exo (hp.objs.size + 1) C (some d)))
    (hr.make C [u] []) (I2.env0.make C [u] []) hbd ru hn upd_same (fun dx h1 h2 => ⟨rfl, dx, by rwa [upd_ne h2] at h1, h2, rfl⟩)
  refine wpAny_call (PySem.HandSPX.call_own PySem.F.excBase_ValueError (fun Y => PySem.HandSPX.refsVE_contains Y bm hbm) (I1.kIn _ _ hC) (PySem.W.looks_findIn I1.kIn T.init) (fun self => PySem.W.bind_fn I1.kIn self T.ty) (by show 1 ≤ _; decide) (codeAny_mono run fun r s' hq' => ?_))
  cases r with
  | error er => exact passAt (W := W0) LamX.takes0 σ pins _ _ er s' I2 hq'
  | ok fl =>
    cases fl with
    | ret u =>
      obtain ⟨v, H2, os2, bare2, un2, hok2, rv, ev, d, hd1, hd2, eH⟩ := hq'
      subst ev
      obtain ⟨h2, g2, d2, t2, os'⟩ := s'
      have ea : H2 (hp.objs.size + 1) = some (exo (hp.objs.size + 1) C (some d)) := by rw [eH, upd_same]
      have ed : H2 d = some (exd d [(fld, .int n)]) := by rw [eH, upd_ne hd2, upd_same]
      have eF : upd (del H2 (hp.objs.size + 1)) d (.xd [(fld, .int n)]) = upd H1 d (.xd [(fld, .int n)]) := by
        funext b
        by_cases h1 : b = d
        · rw [h1, upd_same, upd_same]
        · rw [upd_ne h1, upd_ne h1]
          by_cases h2 : b = hp.objs.size + 1
          · rw [h2, del_same, hn1]
          · rw [del_ne h2, eH, upd_ne h2, upd_ne h1, upd_ne h2]
      exact ⟨rv, mk_end (raises_own T.ox.exC T.ox.tyC) I1 hsz kk un2 hok2 os2 bare2 ea ed hd1 (eF ▸ q1 d hd1)⟩
    | next => exact False.elim hq'
    | brk => exact False.elim hq'
    | cont => exact False.elim hq'
abbrev xRaiseL (C : Addr) (fld : Str) (te : XE) : XS := fun D r m => te r m (fun y m1 => ∃ n : Int, y = .d (.int n) ∧ n.natAbs.log2 < 1920 ∧ D.ex (.ref C) [(fld, .d (.int n))] r m1) (D.at r)
theorem ds_raiseL (hc : X.calm = true) (tk : Takes X W) (T : LimC X.K X.mg x C fI) (F : FnL X.prog X.w X.K X.mg X.base k fI fd C pn fld) (hr : Room (k + 1) X.A) (hb : Binds X.K fd ["self", pn] []) (hg : Gl X x) (he : DE X W e te) (hdb : (x == ("__debug__" : Str)) = false := by decide)
    (hst : starEach [e] X.env = (false, eval e X.env) :: starEach [] X.env := by rfl) : DS X W (.Raise (some (.Call (.Name x p) [e] [] pos)) none pos') (xRaiseL C fld te) := ⟨fun {G r m σ H D E} rs rh hx f =>
  ss_of (ps_raise hc tk (pmk_lim T F hr hb hg hdb hst)) (he.run rs rh hx (fun v y G1 m1 H1 e1 rh1 rv1 ⟨n, q1, q2, q3⟩ => by
    subst q1
    refine ⟨n, rv1.int, q2, fun d hd => ?_⟩
    have gn : G1 d = none := by
      cases q : G1 d with
      | none => rfl
      | some u => exact absurd ((rh1.sub d u q).symm.trans hd) (fun z => nomatch z)
    have rh2 : Rh X.K G1 m1 (upd H1 d (.xd [(fld, .int n)])) := ⟨fun b u q => by rw [upd_ne (ne_of_none (rh1.sub b u q) hd)]; exact rh1.sub b u q, rh1.off, fun b u q => by
      obtain ⟨z, z1, z2⟩ := rh1.mem b u q
      exact ⟨z, by rw [upd_ne (ne_of_none z1 hd)]; exact z1, z2⟩, rh1.tb.keep (Ex.refl _) (fun _ _ z => z) (fun _ _ z => z) (fun b o e _ => by rw [upd_ne (ne_of_none e hd)]; exact e), rh1.nt⟩
    exact f.ex _ (some d) [(fld, .d (.int n))] σ r G1 m1 _ e1 (rs.mono e1) rh2 (.inr ⟨by simp, d, _, rfl, upd_same, gn, .cons ⟨rfl, .d (.int n)⟩ .nil⟩) q3) (f.cx rs))⟩
end
end Dl
/-! D35: an exception with a dict in an except suite: its class, its numbers; defs that are called with it there. -/
namespace Dl
open PySem PySem.Spec PyProof.Rows L2 Evl

/-- the exception at a and its dict are pinned: its class, its numbers -/
def PinE (K : PySem.W.Frag) (ps : List (Addr × Obj)) (a : Addr) (cls : Value) (fs : List (Str × Y)) : Prop :=
  ∃ oe d, (a, oe) ∈ ps ∧ Zc cls d oe ∧ (∃ vs, oe.data = .fields vs) ∧ ((d = none ∧ fs = []) ∨ ∃ dd od, d = some dd ∧ (dd, od) ∈ ps ∧ ∀ n i, fs.lookup n = some (.d (.int i)) → ∃ u, PySem.W.lookIn n od = some (some u) ∧ RelV (.int i) u)
theorem PinE.sub {K : PySem.W.Frag} {ps qs : List (Addr × Obj)} {a : Addr} {cls : Value} {fs : List (Str × Y)} (h : PinE K ps a cls fs) (hs : ∀ q ∈ ps, q ∈ qs) : PinE K qs a cls fs := by
  obtain ⟨oe, d, h1, h2, h3, h4⟩ := h
  refine ⟨oe, d, hs _ h1, h2, h3, ?_⟩
  rcases h4 with h4 | ⟨dd, od, e, h5, h6⟩
  · exact .inl h4
  · exact .inr ⟨dd, od, e, hs _ h5, h6⟩
theorem pinE_inst {K : PySem.W.Frag} {h : Heap} {ps : List (Addr × Obj)} {a D : Addr} {fs : List (Str × Y)} (P : PinE K ps a (.ref D) fs) (hp : ∀ q ∈ ps, h.get? q.1 = some q.2) : ∃ oe od, PySem.W.InstAt h a oe D od ∧
    ∀ n i, fs.lookup n = some (.d (.int i)) → ∃ o u, od = some o ∧ PySem.W.lookIn n o = some (some u) ∧ RelV (.int i) u := by
  obtain ⟨oe, d, h1, h2, ⟨vs, h3⟩, h4⟩ := P
  have hget := hp _ h1
  have nc : PySem.W.notCls oe = true := by unfold PySem.W.notCls; rw [h3] <;> rfl
  rcases h4 with ⟨rfl, rfl⟩ | ⟨dd, od, rfl, h5, h6⟩
  · exact ⟨oe, none, ⟨hget, h2.1, nc, by rw [h2.2]; trivial⟩, fun n i z => nomatch z⟩
  · exact ⟨oe, some od, ⟨hget, h2.1, nc, by rw [h2.2]; exact hp _ h5⟩, fun n i z => by
      obtain ⟨u, e1, e2⟩ := h6 n i z
      exact ⟨od, u, rfl, e1, e2⟩⟩
section
variable {X : Cx} {pins : List (Addr × Obj)} {σ : L2.St} {H : Hp} {s : Shared}
theorem pins_in {qs : List (Addr × Obj)} (I : Inv X pins σ H s) (h : ∀ q ∈ qs, s.heap.get? q.1 = some q.2 ∧ H q.1 = none ∧ q.1 ≠ X.env.locals ∧ q.1 ∉ X.fs ∧ ∀ v, q.2.data ≠ .cell v) : Inv X (qs ++ pins) σ H s :=
  ⟨I.ok, I.os, I.bare, I.base, I.loc, I.cell, I.free, I.freeC, fun p hp => by
    rcases List.mem_append.mp hp with hp | hp
    · exact I.pin p (List.mem_append.mpr (.inl hp))
    · rcases List.mem_append.mp hp with hp | hp
      · exact h p hp
      · exact I.pin p (List.mem_append.mpr (.inr hp)), I.hok, I.len⟩
/-- the dict of an exception need be tracked no longer: it is pinned -/
theorem unxd {dd : Addr} {vs : List (Str × V)} (I : Inv X pins σ H s) (h : H dd = some (.xd vs)) : ∃ od, Inv X ((dd, od) :: pins) σ (del H dd) s ∧ ∀ n i, vs.lookup n = some (.int i) → ∃ u, PySem.W.lookIn n od = some (some u) ∧ RelV (.int i) u := by
  have hx : ObjOk X.prog X.w H s.heap dd (.xd vs) := I.hok dd _ h
  obtain ⟨mA, hns, hr⟩ := hx
  obtain ⟨od, ho, hl⟩ := lookIn_ns hns
  have hnc : ∀ v, od.data ≠ .cell v := fun v z => by
    obtain ⟨o, es, ep, e1, e2, _⟩ := hns
    have q := e1.symm.trans ho
    cases q
    rw [z] at e2
    cases e2
  have neN : ∀ b, H b = none → b ≠ dd := fun b e z => by
    rw [z, h] at e
    cases e
  have hn : ∀ b, H b = none → del H dd b = none := fun b e => by rw [del_ne (neN b e)]; exact e
  have neO : ∀ b c, H b = some (.own c) → b ≠ dd := fun b c e z => by
    rw [z, h] at e
    cases e
  have neT : ∀ b xs, H b = some (.tup xs) → b ≠ dd := fun b c e z => by
    rw [z, h] at e
    cases e
  have neF : ∀ b o u, H b = some (.frz o u) → b ≠ dd := fun b o c e z => by
    rw [z, h] at e
    cases e
  have neB : ∀ b xs, H b = some (.tbl xs) → b ≠ dd := fun b c e z => by
    rw [z, h] at e
    cases e
  have nF : dd ∉ X.fs := fun hm => by
    obtain ⟨_, o, ho, _⟩ := I.ok.funs.mem hm
    have q := I.base.free dd o ho (I.ok.frf dd hm) fun z => I.ok.exfs dd z hm
    rw [h] at q
    cases q
  refine ⟨od, ⟨I.ok, I.os, I.bare, ⟨I.base.keep, I.base.slot, fun b o e n q => hn b (I.base.free b o e n q), I.base.there, fun b xs e => ?_, fun b o u e => ?_, fun b ps e => ?_⟩, I.loc, I.cell, hn _ I.free, fun x c e => hn _ (I.freeC x c e), fun p hp => ?_, fun b u e => ?_, I.len⟩, fun n i e => ?_⟩
  · have q := I.base.tups b xs e
    rw [del_ne (neT b xs q)]
    exact q
  · have q := I.base.frzs b o u e
    rw [del_ne (neF b o u q)]
    exact q
  · obtain ⟨m, q⟩ := I.base.tbls b ps e
    exact ⟨m, by rw [del_ne (neB b _ q)]; exact q⟩
  · rcases List.mem_append.mp hp with hp | hp
    · have q := I.pin p (List.mem_append.mpr (.inl hp))
      exact ⟨q.1, hn _ q.2.1, q.2.2⟩
    · rcases List.mem_cons.mp hp with rfl | hp
      · exact ⟨ho, del_same, (neN _ I.free).symm, nF, hnc⟩
      · have q := I.pin p (List.mem_append.mpr (.inr hp))
        exact ⟨q.1, hn _ q.2.1, q.2.2⟩
  · have hb : b ≠ dd := fun z => by
      rw [z, del_same] at e
      cases e
    rw [del_ne hb] at e
    exact (I.hok b u e).stay (fun c v hc q => q) (fun c q => by rw [del_ne (neO c b q)]; exact q) fun c xs q => by rw [del_ne (neT c xs q)]; exact q
  · obtain ⟨u, hu, ru⟩ := RelO.some_of (v := .int i) (o := mA n) (by rw [← e]; exact hr n)
    exact ⟨u, by rw [hl, hu], ru⟩
end
theorem Rh.unxd {K : PySem.W.Frag} {G H : Hp} {m : Mu} {dd : Addr} {vs : List (Str × V)} (rh : Rh K G m H) (h : H dd = some (.xd vs)) (hg : G dd = none) : Rh K G m (del H dd) := by
  have nm : ∀ b o, m b = some o → b ≠ dd := fun b o e z => by
    obtain ⟨w, h1, h2⟩ := rh.mem b o e
    rw [z, h] at h1
    cases h1
    cases h2
  have ng : ∀ b o, G b = some o → b ≠ dd := fun b o e z => by
    rw [z, hg] at e
    cases e
  exact ⟨fun b u q => by rw [del_ne (ng b u q)]; exact rh.sub b u q, rh.off, fun b u q => by
    obtain ⟨z, z1, z2⟩ := rh.mem b u q
    exact ⟨z, by rw [del_ne (nm b u q)]; exact z1, z2⟩, rh.tb.keep (Ex.refl _) (fun _ _ z => z) (fun _ _ z => z) (fun b o e ⟨T, hT⟩ => by rw [del_ne (nm b _ hT)]; exact e), rh.nt⟩
/-! ### defs that are called with the exception -/
structure FnF (pr : Program) (w : World) (K : PySem.W.Frag) (mg : Str → Option Value) (base : Heap) (k : Nat) (f : Addr) (fd : FuncData) (p : Str) (de : DEx) : Prop where
  run : ∀ (A : Around) (outer : List Env) (s : Shared) (H : Hp) (args : Args) (Q : VK) (a : Addr) (cls : Value) (fs : List (Str × Y)) (qs : List (Addr × Obj)), A.guards = some [] → L2H.RoomH k A → (∀ q ∈ qs, L2H.PinOk outer H s q) → PinE K qs a cls fs →
    Env0 pr w K mg base A outer s H → BindsTo s fd args [(p, .ref a)] → (∃ G m F, Rh K G m H ∧ de cls m F ∧ CvE K G F Q) → codeAny (model pr w) A (.call (.ref f) args) (CR (L2.CX pr w) outer pr w H s Q Eno) s
theorem FnF.mono {pr : Program} {w : World} {K : PySem.W.Frag} {mg : Str → Option Value} {base : Heap} {j k : Nat} {f : Addr} {fd : FuncData} {p : Str} {de : DEx} (F : FnF pr w K mg base j f fd p de) (h : j ≤ k) : FnF pr w K mg base k f fd p de :=
  ⟨fun A outer s H args Q a cls fs qs hg hr => F.run A outer s H args Q a cls fs qs hg (hr.mono h)⟩
abbrev cxF (pr : Program) (w : World) (K : PySem.W.Frag) (mg : Str → Option Value) (base : Heap) (N : List Str) (qual : Str) (sc : Scope) (f : Addr) (cd : Value) (A : Around) (outer : List Env) (s : Shared) (H : Hp) (q : Addr × Obj) (qs : List (Addr × Obj)) : Cx :=
  (cxE pr w K mg base N qual sc f cd A outer s H q).tr ([q] ++ (qs ++ [])) (cxE pr w K mg base N qual sc f cd A outer s H q).xe
structure BxF (X : Cx) (k : Nat) (a : Addr) (cls : Value) : Prop where
  hr : L2H.RoomH k X.A
  gd : X.A.guards = some []
  tk : Takes X (WE1 Eno)
  pin : ∃ fs, PinE X.K X.pn a cls fs
section
variable {pr : Program} {w : World} {K : PySem.W.Frag} {mg : Str → Option Value} {base : Heap}
theorem Fun.dokF {x qual p : Str} {st : Stmt} {f : Addr} {fd : FuncData} {N : List Str} {k : Nat} {de : DEx} (F : L2.Fun K x qual st f fd) (S : FnScope N [p] (defScope st)) (t : Addr → Value → XS)
    (hb : ∀ (a : Addr) (cls cdv : Value) (A : Around) (outer : List Env) (s : Shared) (H : Hp) (oe : Obj) (qs : List (Addr × Obj)), BxF (cxF pr w K mg base N qual (defScope st) f cdv A outer s H (a, oe) qs) k a cls → DSs (cxF pr w K mg base N qual (defScope st) f cdv A outer s H (a, oe) qs) (WE1 Eno) (defBody st) (t a cls))
    (vc : ∀ a cls m F, de cls m F → t a cls { nx := fun _ m => F (.d .none) m, rt := F } (startY N [.v (.ref a)]) m) : FnF pr w K mg base (k + 1) f fd p de := by
  obtain ⟨oc, od, kV, doc, pm, an, cdv, ct, osl, rfl, lk, hcd⟩ := F.ex
  refine ⟨fun A outer s H args Q a cls fs qs hg hr hpin hP e0 hbd ⟨G, m, Fy, rh, hd, cv⟩ => ?_⟩
  obtain ⟨oe, d0, hq0, _⟩ := id hP
  have KX : K.In s.heap := e0.mod.kin.keeps fun b o e => (e0.bs b o e).1
  have hkind : ∀ y ∈ [(p, Value.ref a)], (defScope st).names.lookup y.1 = some .local ∨ ((defScope st).names.lookup y.1 = some .cell ∧ ((cellsFrom (s.heap.objs.size + 1) (defScope st).names []).lookup y.1).isSome = true) := by
    intro y hy
    rw [List.mem_singleton.mp hy]
    exact (S.par p List.mem_cons_self).imp id fun q => ⟨q, PySem.W.cellsFrom_some _ _ _ (.inl q)⟩
  refine codeAny_call_function hr.depth (KX _ _ lk) rfl S.co S.gen rfl (PySem.W.codeRec_of KX hcd) (hbd _ _ _ _ ?_)
  refine wpAny_newFunctionEnv_cells S.kind hkind fun env he s1 x => ?_
  subst he
  refine ⟨(e0.mod.nolimit.keeps fun b o e => (e0.bs b o e).1).keeps x.toInCall.keep, codeAny_func ?_⟩
  have bx : BxF (cxF pr w K mg base N qual (defScope st) f cdv A outer s H (a, oe) qs) k a cls := ⟨hr.deeper _, hg, takes_of rfl rfl rfl rfl, fs, hP.sub fun q hq => List.mem_append_right _ (List.mem_append_left _ hq)⟩
  have rv : RVs K G [V.ref a] [.v (.ref a)] := .cons (.v _) .nil
  have I0 := L2H.inv_startH (CX := L2.CX pr w) (E := Eno) (vs := [V.ref a]) (us := [.ref a]) (ps := [p]) S (hpin _ hq0) e0 rfl (.cons rfl .nil) x
  have I1 := (pins_in (qs := qs) I0 fun q hq => ⟨x.toInCall.keep _ _ (hpin q hq).get, (hpin q hq).free, Nat.ne_of_lt (Heap.lt_size (hpin q hq).get), (hpin q hq).nofs, (hpin q hq).nocell⟩).toTry (cxE pr w K mg base N qual (defScope st) f cdv A outer s H (a, oe)).xe
  have go := (hb a cls cdv A outer s H oe qs bx).run (E := { nx := fun _ H' => Q .non H', rt := Q }) (start_rs (N := N) rv) rh (vc a cls m Fy hd)
    ⟨fun σ r G' m' H' e1 _ rh1 q => cv .non _ G' m' H' e1 rh1 (.d .non) q, fun v y G' m' H' e1 rh1 rv1 q => cv v y G' m' H' e1 rh1 rv1 q, fun _ _ _ _ _ _ _ _ q => q.elim, fun _ _ _ _ _ _ _ _ q => q.elim, fun _ _ _ _ _ _ _ _ _ _ _ _ q => q.elim⟩ [] s1 I1
  have fin : ∀ {s' : Shared} {σ' : L2.St} {H' : Hp} {v : V} {u : Value}, Inv (cxF pr w K mg base N qual (defScope st) f cdv A outer s H (a, oe) qs) [] σ' H' s' → RelV v u → Q v H' → CE outer pr w H s Q u s' :=
    fun J rv q => ⟨_, _, J.os, J.bare, J.base, J.hok, rv, q⟩
  refine wpAny_mono go (fun fl s' hs => ?_) fun e s' hs => hs
  match fl, hs with
  | .ret u, ⟨v, σ', H', J, rv, q⟩ => exact fin J rv q
  | .next, ⟨σ', H', J, q⟩ => exact fin (v := V.non) (u := Value.none) J rfl q
  | .brk, ⟨_, _, _, q⟩ => exact False.elim q
  | .cont, ⟨_, _, _, q⟩ => exact False.elim q
end
/-! ### isinstance(e, C) -/
theorem cd_isF {X : Cx} {k : Nat} {a : Addr} {cls : Value} (B : BxF X k a cls) : CallD X (.builtin "isinstance") (xIsE X.K a cls) := by
  obtain ⟨fs, hP⟩ := B.pin
  refine ⟨fun xs H Q => ∃ (D : Addr) (c : V) (cv : Value) (b : Bool), cls = .ref D ∧ ExcC X.K D ∧ xs = [.ref a, c] ∧ (∀ u, RelV c u → u = cv) ∧ PySem.W.kitOne X.K cls cv = some b ∧ Q (.bl b) H, ?_, fun {G m H vs ys F Q} rh rv hx cv => ?_⟩
  · intro pins s σ H xs us Q I r ⟨D, c, cv, b, ecls, C, ex, hcv, e, q⟩
    subst ex ecls
    obtain ⟨u0, us', rfl, r0, rr⟩ : ∃ u0 us', us = u0 :: us' ∧ RelV (.ref a) u0 ∧ Vals [c] us' := by
      cases r with
      | cons h t => exact ⟨_, _, rfl, h, t⟩
    obtain ⟨u1, rfl, r1⟩ := rr.one
    cases r0
    cases hcv _ r1
    obtain ⟨oe, od, J, _⟩ := pinE_inst (h := s.heap) hP fun q hq => (I.pin q (List.mem_append_left _ hq)).1
    have hcl : (PySem.W.clsIn X.K D).isSome = true := by
      obtain ⟨cd, hc, _⟩ := PySem.W.any_some C.hd
      rw [hc]; rfl
    exact PySem.W.kia_one (PySem.W.kitx_exc hcl C.hg C.hk C.hs C.ha C.hn C.ht C.hm) I.kIn J e (fun z => nomatch z) fun tk => ⟨.bl b, H, I.kept (t' := tk) fun _ _ z => z, rfl, q⟩
  · obtain ⟨D, c, cv', b, ecls, C, rfl, hc, e, f⟩ := hx
    obtain ⟨v, w, rfl, r1, r2⟩ := rvs2 rv
    cases r1
    cases r2
    refine ⟨D, c, cv', b, ecls, C, rfl, fun u hu => ?_, e, cv.at rh (.d (.bl b)) f⟩
    rcases hc with ⟨C', rfl, rfl⟩ | ⟨T, rfl, rfl⟩ <;> exact hu
theorem kisF (K : PySem.W.Frag) {X : Cx} {k : Nat} {a : Addr} {cls : Value} (B : BxF X k a cls) (hK : X.K = K := by rfl) : CallD X (.builtin "isinstance") (xIsE K a cls) := by
  subst hK; exact cd_isF B
/-! ### in the suite -/
section
variable {X : Cx} {x p : Str} {k : Nat} {f a : Addr} {fd : FuncData} {de : DEx} {cls : Value} {fs : List (Str × Y)} {arg e : Expr} {t : TA} {te : TE} {q pos : Pos} {n : Str}
theorem pe_hotF (F : FnF X.prog X.w X.K X.mg X.base k f fd p de) (hr : L2H.RoomH k X.A) (hgd : X.A.guards = some []) (hP : PinE X.K X.pn a cls fs) (hg : Gl X x) (hm : X.mg x = some (.ref f))
    (hk : PySem.W.keepIn X.K (.ref f) = true) (hb : Binds X.K fd [p] []) (tk : Takes X W0) (ha : PA X [arg] t) (hdb : (x == ("__debug__" : Str)) = false := by decide) (he : starEach [arg] X.env = (false, eval arg X.env) :: starEach [] X.env := by rfl) :
    PE X (.Call (.Name x q) [arg] [] pos) (fun σ H Q => t σ H fun vs H1 => vs = [.ref a] ∧ ∃ G m F', Rh X.K G m H1 ∧ de cls m F' ∧ CvE X.K G F' Q) := by
  refine ⟨fun pins s σ H Q I h => ?_⟩
  refine wpAny_Call_Name_kw (ld_glob I hg hm ?_ hdb)
  refine PySem.W.callWith_K (h₀ := X.base) I.ok.mod.kin hk (thn (ha.run pos pins s σ H _ I h) fun us s1 ⟨vs, H1, I1, r, e, q⟩ => ⟨I1.kIn, ?_⟩) he rfl
  subst e
  obtain ⟨u, rfl, ru⟩ := r.one
  cases ru
  have b := hb s1 [.ref a] I1.kIn rfl
  refine wpAny_call (codeAny_mono (F.run X.A X.stack s1 H1 ⟨[.ref a], []⟩ Q a cls fs X.pn hgd hr (fun q hq => ?_) hP I1.env0 b q) fun y s' hq => ?_)
  · have P1 := I1.pin q (List.mem_append_left _ hq)
    exact ⟨P1.1, P1.2.1, fun hm => (List.mem_cons.mp (I1.stkSub q.1 hm)).elim P1.2.2.1 P1.2.2.2.1, P1.2.2.2.2⟩
  match y, hq with
  | .error e, hq => exact passAt (W := W0) tk σ pins H1 s1 e s' I1 hq
  | .ok (.ret u), hq => exact I1.after hq
  | .ok .next, hq => exact False.elim hq
  | .ok .brk, hq => exact False.elim hq
  | .ok .cont, hq => exact False.elim hq
theorem pe_xfP {C : Addr} (T : XfC X.K C) (hno : PySem.W.findIn X.K (.ref C) n = some none) (hP : PinE X.K X.pn a (.ref C) fs) (he : PE X e te) (hb : attributeBase e n X.env (eval e X.env) = eval e X.env := by rfl) :
    PE X (.Attribute e n pos) (fun σ H Q => te σ H fun x H1 => x = .ref a ∧ ∃ i, fs.lookup n = some (.d (.int i)) ∧ Q (.int i) H1) := by
  refine ⟨fun pins s σ H Q I h => ?_⟩
  refine attr_of hb (thn (he.run pins s σ H _ I h) fun u s1 hh => ?_)
  obtain ⟨x, H1, I1, rx, ex, i, l, q⟩ := hh
  subst ex
  obtain rfl : u = Value.ref a := rx
  obtain ⟨oe, od, J, hf⟩ := pinE_inst (h := s1.heap) hP fun q hq => (I1.pin q (List.mem_append_left _ hq)).1
  obtain ⟨o, u, rfl, hu, ru⟩ := hf n i l
  exact PySem.HandSPX.exc_get I1.kIn J T.ga T.gg T.exC (PySem.W.findObj_own T.hdC hno rfl hu) (handed_of ru) ⟨.int i, H1, I1.tok _, ru, q⟩
end
end Dl
/-! D36: several except clauses that name the exception; try: call() except L as e: return (word(e), e.f) except E as e: return (word(e), None). -/
namespace Dl
open PySem PySem.Spec PyProof.Rows L2 Evl

/-- the ends behind a suite whose name at i goes -/
def endsA (i : Nat) (D : Ends) : Ends := { nx := fun σ' H' => D.nx (σ'.set i none) H', rt := D.rt, bk := fun σ' H' => D.bk (σ'.set i none) H', ct := fun σ' H' => D.ct (σ'.set i none) H' }
abbrev Cls2 := List (Value × (Addr → Value → Option Addr → TS))
def wManyA (K : PySem.W.Frag) (i : Nat) (Wout : WX) (D : Ends) : Cls2 → WX
  | [] => Wout
  | p :: r => fun cls d σ H => ∃ b, PySem.W.exmOne K cls p.1 = some b ∧ (b = true → ∀ a, H a = none → p.2 a cls d (endsA i D) (σ.set i (some (.ref a))) H) ∧ (b = false → wManyA K i Wout D r cls d σ H)
inductive HdsA (X : Cx) (n : Str) : List ExceptHandler → Cls2 → Prop
  | nil : HdsA X n [] []
  | cons {x : Str} {c : Value} {ts : Addr → Value → Option Addr → TS} {b₀ : Stmt} {suite : List Stmt} {np pos' : Pos} {hds : List ExceptHandler} {l : Cls2} (hc : Names X x c)
      (hsu : ∀ (a : Addr) (oe : Obj) (cls : Value) (d : Option Addr) (pn : List (Addr × Obj)), Zc cls d oe → (∃ vs, oe.data = .fields vs) → PSs (X.suite a ((a, oe) :: pn)) (b₀ :: suite) (ts a cls d)) (r : HdsA X n hds l) :
      HdsA X n (.ExceptHandler (some (.Name x np)) (some n) (b₀ :: suite) pos' :: hds) ((c, ts) :: l)
section
variable {X : Cx} {n : Str} {i : Nat} {body : List Stmt} {h₀ : ExceptHandler} {hds : List ExceptHandler} {l : Cls2} {pos : Pos} {tb : WX → TS} {Wout : WX}
theorem ps_try_manyA (hs : X.stack = X.env :: X.outer) (hf : X.env.frame = some X.env.locals) (hN : X.N.Nodup) (hi : X.N[i]? = some n) (hln : X.env.kindOf n = some .local) (tk : Takes X Wout)
    (hb : ∀ (W : WX) (pn : List (Addr × Obj)) (xe : Value → Shared → Prop), Takes (X.tr pn xe) W → PassesOwn (model X.prog X.w) X.A X.env xe → PSs (X.tr pn xe) body (tb W))
    (hh : HdsA X n (h₀ :: hds) l) : PS X (.Try body (h₀ :: hds) [] [] pos) (fun D σ H => tb (wManyA X.K i Wout D l) D σ H) := by
  refine ⟨fun pins s σ H D I h => ?_⟩
  have ok := I.ok
  have hfr : X.A.frames = some (X.env :: X.outer) := by rw [ok.frames, hs]
  have hloc : Loc X.env.scope n := .inl hln
  refine wpAny_Try_except (wpAny_mono ((hb (wManyA X.K i Wout D l) (X.pn ++ pins) (fun e s₁ => wpAny (model X.prog X.w) X.A (noteFrame e X.env) (fun _ s₂ => wpAny (model X.prog X.w) X.A (setFlight e none) (fun _ s₃ =>
    wpAny (model X.prog X.w) X.A (handleBy e X.env (h₀ :: hds)) (SP X pins D) X.xe s₃) X.xe s₂) X.xe s₁) (fun u s' xx => ?_) PassesOwn.looking).run [] s σ H D (I.toTry _) h) (fun f s1 hsp => ?_) (fun e s1 he => he))
  · obtain ⟨a, B, sI, pins', σ', H', cls, d, rfl, J', nb, up, sky, na, os, ag, w⟩ := xx
    have J : Inv X pins σ' H' sI := J'.ofTry ok
    have sky' : Sky B (X.env :: X.outer) a (Zc cls d) X.env.locals s'.heap := by rw [← hs]; exact sky
    show wpAny (model X.prog X.w) X.A (noteFrame (.ref a) X.env) _ _ _
    refine Sky.land Zc.steady hfr hf sky' fun h3 fl3 up3 => ?_
    have J3 : Inv X pins σ' H' { s' with heap := h3 } := J.landed nb fl3.1 (up.trans up3) os ag
    obtain ⟨oe3, vs3, he3, hz3, hd3⟩ := fl3.there
    have nfr : a ∉ frs (X.env :: X.outer) := fun hm => by
      obtain ⟨_, o', e', hnf⟩ := fl3.2.2.1.mem hm
      rw [he3] at e'
      cases e'
      exact hnf _ hd3
    have nL : a ≠ X.env.locals := fun z => nfr (List.mem_filterMap.mpr ⟨X.env, List.mem_cons_self, by rw [hf, z]⟩)
    have nF : a ∉ X.fs := fun hm => by
      obtain ⟨e, he, q⟩ := List.mem_filterMap.mp hm
      exact nfr (List.mem_filterMap.mpr ⟨e, List.mem_cons_of_mem _ he, q⟩)
    have S3 := J3.suite he3 hd3 na nL nF
    have LT : PySem.W.Looks (model X.prog X.w) h3 (typeOf (.ref a)) cls := fun A Q E s k q => wpAny_typeOf_ref (k _ _ he3) (by rw [hz3.1]; exact q)
    have go : ∀ {hds' : List ExceptHandler} {l' : Cls2}, HdsA X n hds' l' → wManyA X.K i Wout D l' cls d σ' H' → wpAny (model X.prog X.w) X.A (handleBy (.ref a) X.env hds') (SP X pins D) X.xe { s' with heap := h3 } := by
      intro hds' l' hk
      induction hk with
      | nil =>
        intro w
        refine wpAny_handleBy_nil ?_
        obtain ⟨k1, k2, k3, oe, vs, T, oT, ts', he, hz, hd, h1, hr⟩ := id fl3
        unfold PySem.passOn
        refine wpAny_bind (wpAny_field he hd h1 ?_)
        rw [if_neg (show ¬ ((Value.ref T == Value.none) = true) from by simp)]
        have fin : wpAny (model X.prog X.w) X.A (setFlight (.ref a) X.env.frame) (fun _ s4 => wpAny (model X.prog X.w) X.A (throw (.ref a) : Sem Flow) (SP X pins D) X.xe s4) X.xe { s' with heap := h3 } := by
          rw [hf]
          exact HandSPX.setFlight_upZ fl3 fun h4 hh4 up4 => wpAny_throw (tk _ _ ⟨a, B, sI, pins, σ', H', cls, d, rfl, J, nb, (up.trans up3).trans up4, .inr (.inr (by rw [hs]; exact hh4)), na, os, ag, w⟩)
        first
          | exact wpAny_bind (wpAny_pure (wpAny_bind fin))
          | exact wpAny_bind fin
      | @cons x c ts b₀ suite np pos' hds2 l2 hc hsu r ih =>
        intro w
        obtain ⟨b, hb1, hyes, hno⟩ := w
        refine wpAny_handleBy_cons (codeAny_handlers_test ?_) (by intro q; cases q)
        have LM := PySem.W.exm_one (M := model X.prog X.w) (J3.kIn) LT hb1
        have test : ∀ {Q : Value → Shared → Prop} {E : Value → Shared → Prop}, Q c { s' with heap := h3 } → wpAny (model X.prog X.w) (X.A.mark (some (.ref a))) (eval (.Name x np) X.env) Q E { s' with heap := h3 } := fun {Q E} q => by
          obtain ⟨hg, hdbg, hm | ⟨hm, hv, hnn⟩⟩ := hc
          · exact ld_glob (X := X.suite a ((a, oe3) :: (X.pn ++ pins))) S3 hg hm q hdbg
          · exact ld_blt (X := X.suite a ((a, oe3) :: (X.pn ++ pins))) S3 hg hm hv q hnn hdbg
        refine test (LM.here ?_)
        cases b with
        | false =>
          show wpAny _ X.A (handleBy (.ref a) X.env hds2) _ _ _
          exact ih (hno rfl)
        | true =>
          refine codeAny_handlers_suite_as (HandSPX.lands_againZ fl3 fun h4 fl4 up4 => ?_)
          have J4 : Inv X pins σ' H' { s' with heap := h4 } := J.landed nb fl4.1 ((up.trans up3).trans up4) os ag
          obtain ⟨oe4, vs4, he4, hz4, hd4⟩ := fl4.there
          have S4 := J4.suite he4 hd4 na nL nF
          refine store_ok (X := X.suite a ((a, oe4) :: (X.pn ++ pins))) (v := .ref a) S4 hN hi hloc rfl (fun s5 S5 => ?_) (.inr hln)
          refine wpAny_mono ((hsu a oe4 cls d (X.pn ++ pins) hz4 ⟨_, hd4⟩).run [] s5 _ H' _ S5 (hyes rfl a na)) (fun f s6 hsp => ?_) (fun _ _ z => False.elim z)
          cases f with
          | next =>
            obtain ⟨σ6, H6, S6, q6⟩ := hsp
            exact gone_ok (S6.unsuite ok) hN hi hln fun s7 J7 => ⟨_, _, J7, q6⟩
          | brk =>
            obtain ⟨σ6, H6, S6, q6⟩ := hsp
            exact gone_ok (S6.unsuite ok) hN hi hln fun s7 J7 => ⟨_, _, J7, q6⟩
          | cont =>
            obtain ⟨σ6, H6, S6, q6⟩ := hsp
            exact gone_ok (S6.unsuite ok) hN hi hln fun s7 J7 => ⟨_, _, J7, q6⟩
          | ret u =>
            obtain ⟨v6, σ6, H6, S6, r6, q6⟩ := hsp
            exact gone_ok (S6.unsuite ok) hN hi hln fun s7 J7 => ⟨_, _, _, J7, r6, q6⟩
    exact go hh w
  · cases f with
    | next =>
      obtain ⟨σ', H', J', q⟩ := hsp
      exact wpAny_execs_nil ⟨σ', H', J'.ofTry ok, q⟩
    | brk =>
      obtain ⟨σ', H', J', q⟩ := hsp
      exact ⟨σ', H', J'.ofTry ok, q⟩
    | cont =>
      obtain ⟨σ', H', J', q⟩ := hsp
      exact ⟨σ', H', J'.ofTry ok, q⟩
    | ret u =>
      obtain ⟨v, σ', H', J', r, q⟩ := hsp
      exact ⟨v, σ', H', J'.ofTry ok, r, q⟩
end
end Dl
/-! D37: try: call() except L as e: return (word(e), e.f) except E as e: return (word(e), None); return (x, None). -/
namespace Dl
open PySem PySem.Spec PyProof.Rows L2 Evl
theorem sp_try {X : Cx} {pn' pins : List (Addr × Obj)} {D : Ends} {fl : Flow} {s' : Shared} (ok : X.Ok) (hs : SP (X.tr (X.pn ++ pn') X.xe) [] D fl s') (hp : ∀ p ∈ pins, p ∈ pn') : SP X pins D fl s' := by
  have back : ∀ {σ H}, Inv (X.tr (X.pn ++ pn') X.xe) [] σ H s' → Inv X pins σ H s' := fun J => by
    have J2 : Inv X pn' _ _ s' := J.ofTry ok
    exact ⟨ok, J2.os, J2.bare, J2.base, J2.loc, J2.cell, J2.free, J2.freeC, fun p h => J2.pin p (by
      rcases List.mem_append.mp h with h | h
      · exact List.mem_append_left _ h
      · exact List.mem_append_right _ (hp p h)), J2.hok, J2.len⟩
  cases fl with
  | next =>
    obtain ⟨σ', H', J', q⟩ := hs
    exact ⟨σ', H', back J', q⟩
  | brk =>
    obtain ⟨σ', H', J', q⟩ := hs
    exact ⟨σ', H', back J', q⟩
  | cont =>
    obtain ⟨σ', H', J', q⟩ := hs
    exact ⟨σ', H', back J', q⟩
  | ret u =>
    obtain ⟨v, σ', H', J', r, q⟩ := hs
    exact ⟨v, σ', H', back J', r, q⟩
theorem set_at {i : Nat} {τ : L2.St} {b : Addr} (h : ∃ τ0 : L2.St, τ = τ0.set i (some (V.ref b))) (hl : i < τ.length) : τ[i]? = some (some (V.ref b)) := by
  obtain ⟨τ0, rfl⟩ := h
  rw [List.length_set] at hl
  rw [List.getElem?_set_self (by omega)]
abbrev d_lim (K : PySem.W.Frag) (CL CE : Addr) (fld x0 : Str) (de : DEx) : XTh → XTh := fun tl m F P => tl m (fun _ m1 => F (.d (.tuple [.str x0, .none])) m1) (fun cls fs m1 => ∃ b, PySem.W.exmOne K cls (.ref CL) = some b ∧
  (b = true → cls = .ref CL ∧ ∃ i, fs.lookup fld = some (.d (.int i)) ∧ de cls m1 (fun y m2 => ∃ d, y = .d d ∧ F (.d (.tuple [d, .int i])) m2)) ∧
  (b = false → PySem.W.exmOne K cls (.ref CE) = some true ∧ fs = [] ∧ de cls m1 (fun y m2 => ∃ d, y = .d d ∧ F (.d (.tuple [d, .none])) m2)))
theorem lim_gives {pr : Program} {w : World} {K : PySem.W.Frag} {mg : Str → Option Value} {base : Heap} {N : List Str} {x a l e n wf pw fld x0 : Str} {sc : Scope} {g CL CE fw : Addr} {fdw : FuncData} {k : Nat} {cd : Value} {i j1 j2 j3 : Nat} {de : DEx} {x1 x2 x3 : _}
    {p1 p2 p3 p4 p5 p6 p7 p8 p9 p10 p11 p12 p13 p14 p15 p16 p17 p18 p19 p20 p21 p22 p23 p24 p25 : Pos} (S : FnScope N [a] sc) (hgl : sc.names.lookup l = some .globalImplicit) (hml : mg l = some (.ref CL)) (hdl : (l == ("__debug__" : Str)) = false) (hge : sc.names.lookup e = some .globalImplicit) (hme : mg e = some (.ref CE)) (hde : (e == ("__debug__" : Str)) = false)
    (hi : N[i]? = some n) (hil : i < N.length) (hn : sc.names.lookup n = some .local) (hnd : (n == ("__debug__" : Str)) = false) (hnc : (n == ("__classdict__" : Str)) = false)
    (h0 : ∀ f : Addr, (L2.start N [V.ref f])[0]? = some (some (V.ref f))) (FW : FnF pr w K mg base k fw fdw pw de) (hgw : sc.names.lookup wf = some .globalImplicit) (hmw : mg wf = some (.ref fw)) (hkw : PySem.W.keepIn K (.ref fw) = true) (hbw : Binds K fdw [pw] []) (hdw : (wf == ("__debug__" : Str)) = false)
    (XC : XfC K CL) (hno : PySem.W.findIn K (.ref CL) fld = some none)
    (X : Cx) (y1 : X.prog = pr) (y2 : X.w = w) (y3 : X.K = K) (y4 : X.mg = mg) (y5 : X.base = base) (hat : ∀ env : Env, attributeBase (.Name n p8) fld env (eval (.Name n p8) env) = eval (.Name n p8) env := by intros; rfl) :
    GivesD X N x sc g cd [.Try [.Expr (.Call (.Name a p1) [] [] p2) p3] [.ExceptHandler (some (.Name l p4)) (some n) [.Return (some (.Tuple [.Call (.Name wf p5) [.Name n p6] [] p7, .Attribute (.Name n p8) fld p9] x1 p10)) p11] p12,
      .ExceptHandler (some (.Name e p13)) (some n) [.Return (some (.Tuple [.Call (.Name wf p14) [.Name n p15] [] p16, .Constant .none j1 p17] x2 p18)) p19] p20] [] [] p21, .Return (some (.Tuple [.Constant (.str x0) j2 p22, .Constant .none j3 p23] x3 p24)) p25] a k (d_lim K CL CE fld x0 de) := by
  subst y1 y2 y3 y4 y5
  intro f s H G m F P Q E tl hgd hr act rh hx cv cx
  have hnm1 : Names (cxG X N x sc g cd s H E) l (.ref CL) := ⟨hgl, hdl, .inl hml⟩
  have hnm2 : Names (cxG X N x sc g cd s H E) e (.ref CE) := ⟨hge, hde, .inl hme⟩
  have last : PS (cxG X N x sc g cd s H E) (.Return (some (.Tuple [.Constant (.str x0) j2 p22, .Constant .none j3 p23] x3 p24)) p25) _ := ps_ret (pe_tup (pa_cons pe_str (pa_cons pe_non pa_nil)))
  refine ⟨_, pss_cons (ps_try_manyA (X := cxG X N x sc g cd s H E) (i := i) (Wout := WE1 E)
    (tb := fun W' D τ Hz => ∃ Ec : XK, (∀ cls d σ' H', Ec cls d H' → W' cls d σ' H') ∧ τ[0]? = some (some (.ref f)) ∧ ∃ G1 m1 F1 P1, Ex G G1 ∧ Rh X.K G1 m1 Hz ∧ tl m1 F1 P1 ∧ CvE X.K G1 F1 (fun v H1 => D.nx τ H1) ∧ CvX X.K G1 P1 Ec)
    rfl rfl S.nd hi hn (takes_of rfl rfl rfl rfl) (fun W' pn xe tk' _ => ?_)
    (.cons (ts := fun b cls d D τ Hz => (∃ τ0 : L2.St, τ = τ0.set i (some (.ref b))) ∧ cls = .ref CL ∧ ∃ dd vs fs i0 G1 m1 F1, d = some dd ∧ Hz dd = some (.xd vs) ∧ G1 dd = none ∧ RF X.K G1 vs fs ∧ fs.lookup fld = some (.d (.int i0)) ∧ Rh X.K G1 m1 Hz ∧ de cls m1 F1 ∧
        CvE X.K G1 F1 (fun v H1 => ∀ p, H1 p = none → D.rt (.ref p) (upd H1 p (.tup [v, .int i0])))) hnm1 (fun b oe cls d pn hz hf => ?_)
      (.cons (ts := fun b cls d D τ Hz => (∃ τ0 : L2.St, τ = τ0.set i (some (.ref b))) ∧ d = none ∧ ∃ G1 m1 F1, Rh X.K G1 m1 Hz ∧ de cls m1 F1 ∧ CvE X.K G1 F1 (fun v H1 => ∀ p, H1 p = none → D.rt (.ref p) (upd H1 p (.tup [v, .non])))) hnm2 (fun b oe cls d pn hz hf => ?_) .nil))) (pss_one last), ?_⟩
  · refine ⟨fun pz z τ Hz D J ⟨Ec, hW, z1, G1, m1, F1, P1, z2, z3, z4, z5, z6⟩ => ?_⟩
    have hc := act W' pn xe Ec p1 p2 tk' hW
    have hall := pss_one (ps_expr (pos := p3) hc)
    exact hall.run pz z τ Hz D J ⟨z1, G1, m1, F1, P1, z2, z3, z4, z5, z6⟩
  · refine ⟨fun pz z τ Hz D J ⟨z1, z2, dd, vs, fs, i0, G1, m1, F1, z3, z4, z5, z6, z7, z8, z9, z10⟩ => ?_⟩
    subst z2 z3
    have z1' := set_at z1 (by rw [J.len]; exact hil)
    obtain ⟨od, J2, hod⟩ := unxd J z4
    have J3 := J2.toTry ((cxG X N x sc g cd s H E).suite b ((b, oe) :: pn)).xe
    have hP : PinE X.K (((b, oe) :: pn) ++ ((dd, od) :: pz)) b (.ref CL) fs := ⟨oe, some dd, List.mem_append_left _ List.mem_cons_self, hz, hf, .inr ⟨dd, od, rfl, List.mem_append_right _ List.mem_cons_self, fun q i hq => by
      obtain ⟨u, hu, ru⟩ := RF.lookup z6 hq
      exact hod q i (by rw [hu, ru.int])⟩⟩
    have hv : ∀ p, PE (((cxG X N x sc g cd s H E).suite b ((b, oe) :: pn)).tr (((b, oe) :: pn) ++ ((dd, od) :: pz)) ((cxG X N x sc g cd s H E).suite b ((b, oe) :: pn)).xe) (.Name n p) (tVar i) := fun p => pe_var hi (.inl hn) hnd hnc
    have hro : L2H.RoomH k (((cxG X N x sc g cd s H E).suite b ((b, oe) :: pn)).tr (((b, oe) :: pn) ++ ((dd, od) :: pz)) ((cxG X N x sc g cd s H E).suite b ((b, oe) :: pn)).xe).A := ⟨hr.dp, hr.un⟩
    have hc := pe_hotF (X := ((cxG X N x sc g cd s H E).suite b ((b, oe) :: pn)).tr (((b, oe) :: pn) ++ ((dd, od) :: pz)) ((cxG X N x sc g cd s H E).suite b ((b, oe) :: pn)).xe) (q := p5) (pos := p7) FW hro hgd hP hgw hmw hkw hbw LamX.takes0 (pa_cons (hv p6) pa_nil) hdw
    have hf := pe_xfP (X := ((cxG X N x sc g cd s H E).suite b ((b, oe) :: pn)).tr (((b, oe) :: pn) ++ ((dd, od) :: pz)) ((cxG X N x sc g cd s H E).suite b ((b, oe) :: pn)).xe) (pos := p9) XC hno hP (hv p8) (hat _)
    have hall := pss_one (ps_ret (pos := p11) (pe_tup (x1 := x1) (pos := p10) (pa_cons hc (pa_cons hf pa_nil))))
    refine wpAny_mono (hall.run [] z τ _ D J3 ⟨.ref b, z1', rfl, G1, m1, F1, z8.unxd z4 z5, z9, fun v y G2 m2 H2 e2 rh2 rv2 q => ⟨.ref b, z1', rfl, i0, z7, by show 2 ≤ sizeLine; decide, z10 v y G2 m2 H2 e2 rh2 rv2 q⟩⟩) (fun fl s' hs => sp_try J.ok hs fun p hp => List.mem_cons_of_mem _ hp) fun _ _ q => q
  · refine ⟨fun pz z τ Hz D J ⟨z1, z2, G1, m1, F1, z3, z4, z5⟩ => ?_⟩
    subst z2
    have z1' := set_at z1 (by rw [J.len]; exact hil)
    have hP : PinE X.K ((b, oe) :: pn) b cls [] := ⟨oe, none, List.mem_cons_self, hz, hf, .inl ⟨rfl, rfl⟩⟩
    have hv : PE ((cxG X N x sc g cd s H E).suite b ((b, oe) :: pn)) (.Name n p15) (tVar i) := pe_var hi (.inl hn) hnd hnc
    have hro : L2H.RoomH k ((cxG X N x sc g cd s H E).suite b ((b, oe) :: pn)).A := ⟨hr.dp, hr.un⟩
    have hc := pe_hotF (X := (cxG X N x sc g cd s H E).suite b ((b, oe) :: pn)) (q := p14) (pos := p16) FW hro hgd hP hgw hmw hkw hbw LamX.takes0 (pa_cons hv pa_nil) hdw
    have hall := pss_one (ps_ret (pos := p19) (pe_tup (x1 := x2) (pos := p18) (pa_cons hc (pa_cons (pe_non (j := j1) (pos := p17)) pa_nil))))
    exact hall.run pz z τ Hz D J ⟨.ref b, z1', rfl, G1, m1, F1, z3, z4, fun v y G2 m2 H2 e2 rh2 rv2 q => ⟨by show 2 ≤ sizeLine; decide, z5 v y G2 m2 H2 e2 rh2 rv2 q⟩⟩
  · refine ⟨fun cls d H' => ∃ G1 m1 fs, Rh X.K G1 m1 H' ∧ Ex G G1 ∧ XF X.K G1 H' d fs ∧ ∃ b, PySem.W.exmOne X.K cls (.ref CL) = some b ∧
      (b = true → cls = .ref CL ∧ ∃ i, fs.lookup fld = some (.d (.int i)) ∧ de cls m1 (fun y m2 => ∃ d, y = .d d ∧ F (.d (.tuple [d, .int i])) m2)) ∧
      (b = false → PySem.W.exmOne X.K cls (.ref CE) = some true ∧ fs = [] ∧ de cls m1 (fun y m2 => ∃ d, y = .d d ∧ F (.d (.tuple [d, .none])) m2)), fun cls d σ' H' ⟨G1, m1, fs, w1, w2, w3, b, w4, w5, w6⟩ => ⟨b, w4, fun hb c _ => ?_, fun hb => ?_⟩,
      h0 f, G, m, _, _, Ex.refl G, rh, hx, fun v y G1 m1 H1 e1 rh1 rv1 q => ?_, fun cls d fs G1 m1 H1 e1 rh1 xf ⟨b, q1, q2, q3⟩ => ⟨G1, m1, fs, rh1, e1, xf, b, q1, q2, q3⟩⟩
    · obtain ⟨v1, i0, v2, v3⟩ := w5 hb
      rcases w3 with ⟨rfl, _⟩ | ⟨_, dd, vs, rfl, u1, u2, u3⟩
      · cases v2
      · exact ⟨⟨_, rfl⟩, v1, dd, vs, fs, i0, G1, m1, _, rfl, u1, u2, u3, v2, w1, v3, fun v y G2 m2 H2 e2 rh2 rv2 ⟨d, q1, q2⟩ p hp => by
          subst q1
          exact mkT_ok rh2 (.cons rv2 (.cons (.d (.int i0)) .nil)) hp q2 (cv.mono (w2.trans e2))⟩
    · obtain ⟨v1, v2, v3⟩ := w6 hb
      refine ⟨true, v1, fun _ c _ => ⟨⟨_, rfl⟩, ?_, G1, m1, _, w1, v3, fun v y G2 m2 H2 e2 rh2 rv2 ⟨d, q1, q2⟩ p hp => by
          subst q1
          exact mkT_ok rh2 (.cons rv2 (.cons (.d .non) .nil)) hp q2 (cv.mono (w2.trans e2))⟩, fun z => nomatch z⟩
      rcases w3 with ⟨_, h⟩ | ⟨h, _⟩
      · exact h
      · exact absurd v2 h
    · exact ⟨by show 2 ≤ sizeLine; decide, fun p hp => mkT_ok rh1 (.cons (.d (.str x0)) (.cons (.d .non) .nil)) hp q (cv.mono e1)⟩
end Dl
/-! D38: list * n. -/
namespace Dl
open PySem PySem.Spec PyProof.Rows L2 Evl
section
variable {X : Cx}
abbrev rRepL : R2 := fun x y H Q => ∃ l k xs, x = .ref l ∧ y = .int k ∧ Rd H l (.lst xs) ∧ 0 ≤ k ∧ k ≤ 1000 ∧ xs.length ≤ 10 ∧ ∀ p, H p = none → Q (.ref p) (upd H p (.lst (List.replicate k.toNat xs).flatten))
theorem op_repL : OpR X (binaryOp .Mult) rRepL := by
  intro ps s τ H x y v u Q I rx ry want
  obtain ⟨l, k, xs, rfl, rfl, hR, k0, k1, hl, q⟩ := want
  cases rx
  obtain ⟨t, rfl⟩ := ry
  obtain ⟨_, its, n, r, ho⟩ := rd_lst I hR
  have hsz : its.toArray.size * k.toNat ≤ sizeLine := by
    rw [List.size_toArray, ← r.length]
    have a : xs.length * k.toNat ≤ 10 * 1000 := Nat.mul_le_mul hl (by omega)
    exact Nat.le_trans a (by decide)
  have c1 : ¬ its.toArray.size * k.toNat > (2 ^ 63 - 1) / 8 := by
    have : (sizeLine : Nat) ≤ (2 ^ 63 - 1) / 8 := by decide
    omega
  have c2 : ¬ (!Builtin.List.listFitsIndex k) = true := by
    rw [fitsIndex_both (by omega) (by omega)]
    exact Bool.false_ne_true
  have c3 : ¬ Builtin.List.listTooLong (its.toArray.size * k.toNat) = true := by
    rw [notLongL hsz]
    exact Bool.false_ne_true
  have enew : List.foldl (fun x1 x2 => x1 ++ x2) #[] (List.replicate (if its.toArray.isEmpty = true then 0 else k.toNat) its.toArray) = (List.replicate k.toNat its).flatten.toArray := by
    have e0 : ∀ j : Nat, List.foldl (fun x1 x2 => x1 ++ x2) #[] (List.replicate j its.toArray) = (List.replicate j its).flatten.toArray := fun j => by
      have z := foldl_rep its j []
      rwa [List.nil_append] at z
    rw [e0]
    cases its with
    | nil => simp
    | cons a b => rw [if_neg (by simp)]
  refine wpAny_binaryOp_repeat_ref (T := "list") (U := "int") (by decide) ⟨_, ho, rfl⟩ (fun s' => typeIs_int s' k t) noFill_list_mul F.fills_int_mul F.slot_int_rmul repeat_list F.slot_int_index.lookup
    (call_meets F.slot_int_rmul (typeIs_int s k t) F.entry_int_rmul (F.args_int_rmul_2 _ _) (int___rmul___int_list k t l its.toArray n)
      ⟨ho, rfl, ⟨_, ho, rfl⟩, call_meets F.slot_list_mul ⟨_, ho, rfl⟩ F.entry_list_mul (F.args_list_mul_2 _ _) (AutoListH.list___mul___list_int_3 l its.toArray n k t c2 c1 c3) ⟨ho, ?_⟩⟩)
  rw [enew]
  exact ⟨.ref _, _, I.lnew (t' := s.toks) (r.rep k.toNat) (by rw [PyProof.Rows.lm_len_rep_flat, Nat.mul_comm, r.length, ← List.size_toArray]; exact hsz), rfl, q _ I.fresh⟩
abbrev xRepL : XR := fun y z m F => ∃ ds k, y = .d (.list ds) ∧ z = .d (.int k) ∧ 0 ≤ k ∧ k ≤ 1000 ∧ ds.length ≤ 10 ∧ F (.d (.list (List.replicate k.toNat ds).flatten)) m
theorem opd_repL : OpD X (binaryOp .Mult) xRepL := by
  refine ⟨_, op_repL, fun {G m H v w y z F Q} rh rv rw hx cv => ?_⟩
  obtain ⟨ds, k, rfl, rfl, k0, k1, hl, f⟩ := hx
  cases rw.int
  obtain ⟨p, vs, rfl, s1, q1⟩ := lsY_ok (y := .d (.list ds)) (ys := ds.map Y.d) rh rv rfl
  refine ⟨p, k, vs, rfl, rfl, s1, k0, k1, by rw [q1.length, List.length_map]; exact hl, fun q hq => ?_⟩
  have rp : ∀ n : Nat, RVs X.K G (List.replicate n vs).flatten ((List.replicate n ds).flatten.map Y.d) := fun n => by
    induction n with
    | zero => exact .nil
    | succ n ih =>
      rw [List.replicate_succ, List.replicate_succ, List.flatten_cons, List.flatten_cons, List.map_append]
      exact q1.app ih
  exact lstD_ok rh (rp k.toNat) hq f cv
end
end Dl
/-! D39: keyword arguments of methods and constructors. -/
namespace Dl
open PySem PySem.Spec PyProof.Rows L2 Evl

/-- the parameters' values: where each stands among the values that are given -/
def pickL {α : Type} (ix : List Nat) (xs : List α) : List α := ix.filterMap fun i => xs[i]?
theorem vals_none {vs : List V} {us : List Value} (r : Vals vs us) {i : Nat} (h : vs[i]? = none) : us[i]? = none := by
  rw [List.getElem?_eq_none_iff] at h ⊢
  rw [← r.length]; exact h
theorem pick_rel {vs : List V} {us : List Value} (r : Vals vs us) : ∀ ix : List Nat, Vals (pickL ix vs) (pickL ix us)
  | [] => .nil
  | i :: ix => by
    unfold pickL
    rw [List.filterMap_cons, List.filterMap_cons]
    cases h : vs[i]? with
    | none =>
      rw [vals_none r h]
      exact pick_rel r ix
    | some v =>
      obtain ⟨u, hu, ru⟩ := r.get h
      rw [hu]
      exact .cons ru (pick_rel r ix)
theorem pick_rvs {K : PySem.W.Frag} {G : Hp} {vs : List V} {ys : List Y} (r : RVs K G vs ys) : ∀ ix : List Nat, RVs K G (pickL ix vs) (pickL ix ys)
  | [] => .nil
  | i :: ix => by
    unfold pickL
    rw [List.filterMap_cons, List.filterMap_cons]
    cases h : ys[i]? with
    | none =>
      have e : vs[i]? = none := by
        rw [List.getElem?_eq_none_iff] at h ⊢
        rw [r.length]; exact h
      rw [e]
      exact pick_rvs r ix
    | some y =>
      obtain ⟨v, hv, rv⟩ := RVs.get r h
      rw [hv]
      exact .cons rv (pick_rvs r ix)
structure KwB (fd : FuncData) (ps ks : List Str) (n : Nat) (ix : List Nat) : Prop where
  to : ∀ (s : Shared) (us ws : List Value), us.length = n → ws.length = ks.length → BindsTo s fd ⟨us, ks.zip ws⟩ (ps.zip (pickL ix (us ++ ws)))
  len : ∀ us ws : List Value, us.length = n → ws.length = ks.length → (pickL ix (us ++ ws)).length = ps.length
section
variable {K : PySem.W.Frag} {x qual : Str} {st : Stmt} {f : Addr} {fd : FuncData} {ps ks : List Str} {n : Nat} {ix : List Nat}
theorem Fun.kwb (F : Fun K x qual st f fd) (h : ∀ (kV doc pm : Value) (an : Option Addr) (cdv ct : Value) (us ws : List Value), us.length = n → ws.length = ks.length → bindArgs (PySem.W.fnOf x qual (defArgs st) (defBody st) (defScope st) .none kV doc pm an cdv ct) ⟨us, ks.zip ws⟩ = pure (ps.zip (pickL ix (us ++ ws))))
    (hl : ∀ us ws : List Value, us.length = n → ws.length = ks.length → (pickL ix (us ++ ws)).length = ps.length) : KwB fd ps ks n ix := by
  obtain ⟨oc, od, kV, doc, pm, an, cdv, ct, osl, rfl, _, _⟩ := F.ex
  exact ⟨fun s us ws h1 h2 => .of_eq (h _ _ _ _ _ _ us ws h1 h2), hl⟩
theorem SFun.kwb {P : Program} {cc D : Addr} {cdv : Value} (F : SFun P K x qual st f fd cdv cc D) (h : ∀ (kV doc pm : Value) (an : Option Addr) (ct : Value) (us ws : List Value), us.length = n → ws.length = ks.length → bindArgs (PySem.W.ksFn x qual (defArgs st) (defBody st) (defScope st) .none kV doc pm an cdv ct cc) ⟨us, ks.zip ws⟩ = pure (ps.zip (pickL ix (us ++ ws))))
    (hl : ∀ us ws : List Value, us.length = n → ws.length = ks.length → (pickL ix (us ++ ws)).length = ps.length) : KwB fd ps ks n ix := by
  obtain ⟨oc, od, kV, doc, pm, an, ct, osl, rfl, _, _⟩ := F.ex
  exact ⟨fun s us ws h1 h2 => .of_eq (h _ _ _ _ _ us ws h1 h2), hl⟩
end
def SK (X : Cx) (kws : List Keyword) : TA := fun σ H Q => ∀ (pos : Pos) (pins : List (Addr × Obj)) (s : Shared), Inv X pins σ H s → wpAny (model X.prog X.w) X.A (evalAll ((backToKw pos (keywordEach kws X.env)).map (·.2))) (AP X pins σ Q) X.xe s
structure DK (X : Cx) (W : WX) (kws : List Keyword) (t : XA) : Prop where
  run : ∀ {G : Hp} {r : Ro} {m : Mu} {σ : L2.St} {H : Hp} {F : List Y → Mu → Prop} {P : XP} {Q : List V → Hp → Prop}, Rs X.K G σ r → Rh X.K G m H → t r m F P → CvA X.K G F Q → CvX X.K G P (WEx W σ) → SK X kws σ H Q
section
variable {X : Cx} {W : WX} {e o : Expr} {es : List Expr} {kws : List Keyword} {te ta : XE} {t tk : XA} {nm : Option Str} {kpos p pos apos : Pos} {σ : L2.St} {H : Hp}
theorem sk_pk : PK X kws (SK X kws) := ⟨fun pos pins s _ _ _ I h => h pos pins s I⟩
theorem sk_of {u : TA} {Q : List V → Hp → Prop} (h : PK X kws u) (q : u σ H Q) : SK X kws σ H Q := fun pos pins s I => h.run pos pins s σ H Q I q
theorem dk_nil : DK X W [] xNil := ⟨fun {G r m σ H F P Q} rs rh hx cv _ => sk_of pk_nil (cv [] [] G m H (Ex.refl G) rh .nil hx)⟩
theorem dk_cons (ha : DE X W e te) (hr : DK X W kws t) : DK X W (⟨nm, e, kpos⟩ :: kws) (xCons te t) := ⟨fun {G r m σ H F P Q} rs rh hx cv cx => sk_of (pk_cons se_pe sk_pk) (ha.run rs rh hx (fun v y G1 m1 H1 e1 rh1 rv1 h1 =>
    hr.run (rs.mono e1) rh1 h1 (fun vs ys G2 m2 H2 e2 rh2 rv2 h2 => cv (v :: vs) (y :: ys) G2 m2 H2 (e1.trans e2) rh2 (.cons (rv1.mono e2) rv2) h2) (cx.mono e1)) cx)⟩
variable {k j n : Nat} {f C : Addr} {fd : FuncData} {ps ks : List Str} {d : DSp} {ix : List Nat} {x mn : Str}
theorem run_dk {pins : List (Addr × Obj)} {s : Shared} {Q : VK} {us ws : List Value} {vs zs : List V} (F : FnD X.prog X.w X.K X.mg X.base k f fd ps d) (hr : Room k X.A) (hg : X.A.guards = some []) (hb : KwB fd ps ks n ix)
    (tk : Takes X W) (I : Inv X pins σ H s) (r : Vals vs us) (rz : Vals zs ws) (l1 : us.length = n) (l2 : ws.length = ks.length) (h : cz X.K d (pickL ix (vs ++ zs)) H Q (WEx W σ)) : wpAny (model X.prog X.w) X.A (call (.ref f) us (ks.zip ws)) (EP X pins σ Q) X.xe s := by
  have rr := pick_rel (r.append rz) ix
  refine wpAny_call (codeAny_mono (F.run X.A X.stack s H ⟨us, ks.zip ws⟩ (pickL ix (us ++ ws)) (pickL ix (vs ++ zs)) Q (WEx W σ) hg hr I.env0 (hb.to s us ws l1 l2) rr h) fun z s' hq => ?_)
  match z, hq with
  | .error e, hq => exact passAt tk σ pins H s e s' I hq
  | .ok (.ret u), hq => exact I.after hq
  | .ok .next, hq => exact False.elim hq
  | .ok .brk, hq => exact False.elim hq
  | .ok .cont, hq => exact False.elim hq
/-- o.m(.., k = v, ..) -/
abbrev xMethK (C : Addr) (mn : Str) (d : DSp) (n : Nat) (ks : List Str) (ix : List Nat) (ta : XE) (t tk : XA) : XE := fun r m F P => ta r m (fun y m1 => ∃ a dx gs, y = .l a ∧ m1 a = some (.ins C dx gs) ∧ gs.lookup mn = none ∧
  t r m1 (fun ys m2 => tk r m2 (fun zs m3 => (Y.l a :: ys).length = n ∧ zs.length = ks.length ∧ d (pickL ix ((.l a :: ys) ++ zs)) m3 F P) P) P) P
theorem de_methK {pl : Sem Bool} (he : DE X W o ta) (M : MF X.prog X.w X.K X.mg X.base C mn k f fd ps d) (hr : Room j X.A) (hgd : X.A.guards = some []) (tk' : Takes X W) (hb : KwB fd ps ks n ix) (ha : DA X W es t) (hkw : DK X W kws tk) (hk : k ≤ j := by decide)
    (hcw : ∀ (Q : Value → Shared → Prop) (E : Value → Shared → Prop) (a : Addr) (s : Shared), X.K.In s.heap → wpAny (model X.prog X.w) X.A (spliced (backTo pos (starEach es X.env))) (fun us s1 => wpAny (model X.prog X.w) X.A (evalAll ((backToKw pos (keywordEach kws X.env)).map (·.2)))
      (fun ws s2 => X.K.In s2.heap ∧ wpAny (model X.prog X.w) X.A (call (.ref f) ([.ref a] ++ us) (ks.zip ws)) Q E s2) E s1) E s → wpAny (model X.prog X.w) X.A (callWith pos (.ref f) [.ref a] (backTo pos (starEach es X.env)) (backToKw pos (keywordEach kws X.env))) Q E s)
    (ht : eval (.Call (.Attribute o mn apos) es kws pos) X.env = (eval o X.env >>= fun ov => standAt apos.atName >>= fun _ => holding [ov] (getMethod ov mn pl) >>= fun z =>
      callWith pos z.1 z.2 (backTo pos (starEach es X.env)) (backToKw pos (keywordEach kws X.env))) := by rfl) :
    DE X W (.Call (.Attribute o mn apos) es kws pos) (xMethK C mn d n ks ix ta t tk) := ⟨fun {G r m σ H F' P Q} rs rh hx cv cx => fun pins s I => by
  have he' := he.run (Q := fun v H1 => ∃ a dx fs, v = V.ref a ∧ H1 a = some (.ins C dx fs) ∧ fs.lookup mn = none ∧ SA X es σ H1 fun vs H2 => SK X kws σ H2 fun zs H3 => (V.ref a :: vs).length = n ∧ zs.length = ks.length ∧ cz X.K d (pickL ix ((.ref a :: vs) ++ zs)) H3 Q (WEx W σ)) rs rh hx (fun v y G1 m1 H1 e1 rh1 rv1 q1 => by
    obtain ⟨a, dx, gs, rfl, hma, hl, q⟩ := q1
    obtain ⟨fs, hH, hf⟩ := rh1.ins hma
    cases rv1.loc
    exact ⟨a, dx, fs, rfl, hH, RF.lookup_none hf hl, ha.run (rs.mono e1) rh1 q (fun vs ys G2 m2 H2 e2 rh2 rv2 q2 => hkw.run ((rs.mono e1).mono e2) rh2 q2 (fun zs us G3 m3 H3 e3 rh3 rv3 ⟨q3, q4, q5⟩ => by
      have rr : RVs X.K G3 ((.ref a :: vs) ++ zs) ((.l a :: ys) ++ us) := (show RVs X.K G3 (.ref a :: vs) (.l a :: ys) from .cons (.l a) (rv2.mono e3)).app rv3
      refine ⟨by rw [← q3, List.length_cons, List.length_cons, rv2.length], by rw [rv3.length, q4], G3, m3, pickL ix ((.l a :: ys) ++ us), F', P, rh3, pick_rvs rr ix, q5, cv.mono ((e1.trans e2).trans e3), cx.mono ((e1.trans e2).trans e3)⟩) (cx.mono (e1.trans e2))) (cx.mono e1)⟩) cx
  refine PySem.W.methodCall_KW (pl := pl) (thn (he' pins s I) fun u s1 ⟨v, H1, I1, rx, a, dx, fs, ex, ea, l, q⟩ => ?_) ht
  subst ex
  obtain rfl : u = Value.ref a := rx
  refine getmeth_ok I1 ea M.cl M.mt l ?_
  refine hcw _ _ _ _ I1.kIn (thn (q pos pins s1 I1) fun us s2 ⟨vs, H2, I2, r2, q2⟩ => thn (q2 pos pins s2 I2) fun ws s3 ⟨zs, H3, I3, r3, l1, l2, q3⟩ => ⟨I3.kIn, ?_⟩)
  have rr : Vals (V.ref a :: vs) (Value.ref a :: us) := .cons rfl r2
  exact run_dk (us := .ref a :: us) (vs := .ref a :: vs) M.fn (hr.mono hk) hgd hb tk' I3 rr r3 (by rw [← rr.length]; exact l1) (by rw [← r3.length]; exact l2) q3⟩
/-- what callWith does with keywords: no positional argument, or some -/
theorem kw_0 (hk : PySem.W.keepIn X.K (.ref f) = true) (hall : (backToKw pos (keywordEach kws X.env)).all (·.1.isSome) = true := by rfl) (hks : (backToKw pos (keywordEach kws X.env)).filterMap (·.1) = ks := by rfl) (hpl : ((backTo pos (starEach [] X.env)).any (·.1) || (backToKw pos (keywordEach kws X.env)).any (·.1.isNone)) = false := by rfl) :
    ∀ (Q : Value → Shared → Prop) (E : Value → Shared → Prop) (a : Addr) (s : Shared), X.K.In s.heap → wpAny (model X.prog X.w) X.A (spliced (backTo pos (starEach [] X.env))) (fun us s1 => wpAny (model X.prog X.w) X.A (evalAll ((backToKw pos (keywordEach kws X.env)).map (·.2)))
      (fun ws s2 => X.K.In s2.heap ∧ wpAny (model X.prog X.w) X.A (call (.ref f) ([.ref a] ++ us) (ks.zip ws)) Q E s2) E s1) E s → wpAny (model X.prog X.w) X.A (callWith pos (.ref f) [.ref a] (backTo pos (starEach [] X.env)) (backToKw pos (keywordEach kws X.env))) Q E s := fun Q E a s hX h => by
  subst hks
  exact fun x y z => (PySem.W.callWith_KW0 (h₀ := s.heap) hX hk hall (h x y z) hpl) x y z
theorem kw_1 (hk : PySem.W.keepIn X.K (.ref f) = true) (hall : (backToKw pos (keywordEach kws X.env)).all (·.1.isSome) = true := by rfl) (hks : (backToKw pos (keywordEach kws X.env)).filterMap (·.1) = ks := by rfl) (hpl : ((backTo pos (starEach (e :: es) X.env)).any (·.1) || (backToKw pos (keywordEach kws X.env)).any (·.1.isNone)) = false := by rfl)
    (he : starEach (e :: es) X.env = (false, eval e X.env) :: starEach es X.env := by rfl) :
    ∀ (Q : Value → Shared → Prop) (E : Value → Shared → Prop) (a : Addr) (s : Shared), X.K.In s.heap → wpAny (model X.prog X.w) X.A (spliced (backTo pos (starEach (e :: es) X.env))) (fun us s1 => wpAny (model X.prog X.w) X.A (evalAll ((backToKw pos (keywordEach kws X.env)).map (·.2)))
      (fun ws s2 => X.K.In s2.heap ∧ wpAny (model X.prog X.w) X.A (call (.ref f) ([.ref a] ++ us) (ks.zip ws)) Q E s2) E s1) E s → wpAny (model X.prog X.w) X.A (callWith pos (.ref f) [.ref a] (backTo pos (starEach (e :: es) X.env)) (backToKw pos (keywordEach kws X.env))) Q E s := fun Q E a s hX h => by
  subst hks
  exact PySem.W.callWith_KW (h₀ := s.heap) hX hk hall h hpl he
/-- C(k = v, ..) -/
abbrev xMakeK (C : Addr) (d : DSp) (ks : List Str) (ix : List Nat) (tk : XA) : XE := fun r m F P => tk r m (fun zs m1 => zs.length = ks.length ∧ ∀ a dx, m1 a = none → d (pickL ix ([.l a] ++ zs)) (mu m1 a (.ins C dx [])) (fun y m2 => y = .d .none ∧ F (.l a) m2) P) P
theorem de_makeK (M : NF X.prog X.w X.K X.mg X.base x C k f fd ps d) (hr : Room j X.A) (hgd : X.A.guards = some []) (tk' : Takes X W) (hb : KwB fd ps ks 1 ix) (hg : Gl X x) (hkw : DK X W kws tk) (hk : k + 1 ≤ j := by decide) (hdb : (x == ("__debug__" : Str)) = false := by decide)
    (hall : (backToKw pos (keywordEach kws X.env)).all (·.1.isSome) = true := by rfl) (hks : (backToKw pos (keywordEach kws X.env)).filterMap (·.1) = ks := by rfl) (hpl : ((backTo pos (starEach [] X.env)).any (·.1) || (backToKw pos (keywordEach kws X.env)).any (·.1.isNone)) = false := by rfl) :
    DE X W (.Call (.Name x p) [] kws pos) (xMakeK C d ks ix tk) := ⟨fun {G r m σ H F' P Q} rs rh hx cv cx => fun pins s I => by
  subst hks
  refine wpAny_Call_Name_kw (ld_glob I hg M.gm ?_ hdb)
  have ha' := hkw.run (Q := fun vs H1 => vs.length = ((backToKw pos (keywordEach kws X.env)).filterMap (·.1)).length ∧ ∀ a dx, H1 a = none → H1 dx = none → dx ≠ a → cz X.K d (pickL ix ([.ref a] ++ vs)) (upd (upd H1 dx (.own a)) a (.ins C dx [])) (fun v H2 => v = .non ∧ Q (.ref a) H2) (WEx W σ)) rs rh hx (fun vs ys G1 m1 H1 e1 rh1 rv1 ⟨q0, q1⟩ => ⟨by rw [rv1.length, q0], fun a dx na ndx ne => by
    have f := rh1.free na
    have r1 : Rh X.K G1 m1 (upd H1 dx (.own a)) := ⟨fun b u q => by rw [upd_ne (ne_of_none (rh1.sub b u q) ndx)]; exact rh1.sub b u q, rh1.off, fun b u q => by
      obtain ⟨z, z1, z2⟩ := rh1.mem b u q
      exact ⟨z, by rw [upd_ne (ne_of_none z1 ndx)]; exact z1, z2⟩, rh1.tb.keep (Ex.refl _) (fun _ _ z => z) (fun _ _ z => z) (fun b o e _ => by rw [upd_ne (ne_of_none e ndx)]; exact e), rh1.nt⟩
    have r2 : Rh X.K G1 (mu m1 a (.ins C dx [])) (upd (upd H1 dx (.own a)) a (.ins C dx [])) := r1.new (by rw [upd_ne (Ne.symm ne)]; exact na) (.ins .nil)
    have rr : RVs X.K G1 ([.ref a] ++ vs) ([.l a] ++ ys) := (show RVs X.K G1 [.ref a] [.l a] from .cons (.l a) .nil).app rv1
    exact ⟨G1, _, pickL ix ([.l a] ++ ys), fun y m2 => y = .d .none ∧ F' (.l a) m2, P, r2, pick_rvs rr ix, q1 a dx f.2,
      fun v y G2 m2 H2 e2 rh2 rv2 ⟨q2, q3⟩ => by subst q2; exact ⟨rv2.non, cv _ _ G2 m2 H2 (e1.trans e2) rh2 (.l a) q3⟩, cx.mono e1⟩⟩) cx
  refine PySem.W.callWith_KW0 (h₀ := X.base) I.ok.mod.kin M.mk'.kp hall (thn (ha' pos pins s I) fun ws s1 ⟨zs, H1, I1, r1, l1, q⟩ => ⟨I1.kIn, ?_⟩) hpl
  have hq := q (s1.heap.objs.size + 1) s1.heap.objs.size (I1.hok.fresh (Nat.le_succ _)) (I1.hok.fresh (Nat.le_refl _)) (Nat.ne_of_lt (Nat.lt_succ_self _))
  have J := Inv.made (C := C) I1
  have rr : Vals ([V.ref (s1.heap.objs.size + 1)] ++ zs) ([Value.ref (s1.heap.objs.size + 1)] ++ ws) := .cons rfl r1
  have hr' : Room (k + 1) X.A := hr.mono hk
  refine wpAny_call (make_map (f := f) I1.kIn M.mk'.makes M.mk'.init (beq_iff_eq.mp M.mk'.fn) (codeAny_mono (M.fn.run _ X.stack _ _ ⟨[Value.ref (s1.heap.objs.size + 1)], ((backToKw pos (keywordEach kws X.env)).filterMap (·.1)).zip ws⟩ (pickL ix ([Value.ref (s1.heap.objs.size + 1)] ++ ws)) _ _ (WEx W σ)
    (make_guards hgd) (hr'.make C [] _) (J.env0.make C [] _) (hb.to _ [Value.ref (s1.heap.objs.size + 1)] ws rfl (by rw [← r1.length]; exact l1)) (pick_rel rr ix) hq) fun z s' hz => ?_))
  match z, hz with
  | .error e, hz => exact passAt tk' σ pins _ _ e s' J hz
  | .ok (.ret u), hz =>
    obtain ⟨v, H', I3, rv, ev, q3⟩ := J.after hz
    subst ev
    exact ⟨rv, ⟨V.ref (s1.heap.objs.size + 1), H', I3, rfl, q3⟩⟩
  | .ok .next, hz => exact False.elim hz
  | .ok .brk, hz => exact False.elim hz
  | .ok .cont, hz => exact False.elim hz⟩
end
end Dl
/-! D40: repr of an instance by its own __repr__. -/
namespace Dl
open PySem PySem.Spec PyProof.Rows L2 Evl
section
variable {X : Cx} {k j : Nat} {f C : Addr} {fd : FuncData} {ps : List Str} {d : DSp}
abbrev xReprO (C : Addr) (d : DSp) : XRC := fun ys m F => ∃ a dx gs, ys = [.l a] ∧ m a = some (.ins C dx gs) ∧ d [.l a] m (fun y m' => ∃ x, y = .d (.str x) ∧ F y m') (fun _ _ _ => False)
theorem cd_reprO (M : MF X.prog X.w X.K X.mg X.base C "__repr__" k f fd ps d) (hr : Room j X.A) (hgd : X.A.guards = some []) (hk : k + 1 ≤ j := by decide) : CallD X (.builtin "repr") (xReprO C d) := by
  refine ⟨fun xs H Q => ∃ a dx fs, xs = [.ref a] ∧ H a = some (.ins C dx fs) ∧ cz X.K d [.ref a] H (fun v H' => ∃ x, v = .str x ∧ Q (.str x) H') (fun _ _ _ => False), ?_, fun {G m H vs ys F Q} rh rv hx cv => ?_⟩
  · intro pins s σ H xs us Q I r ⟨a, dx, fs, ex, ea, q⟩
    subst ex
    obtain ⟨u, rfl, ru⟩ := r.one
    cases ru
    obtain ⟨mA, O, _, _, _, _⟩ := ins_get I.hok ea
    obtain ⟨od, J, _⟩ := O.look
    obtain ⟨m0, hm0, _⟩ := I.loc
    have Fr0 : PyProof.Rows.Fr X.base X.env.locals s.heap m0 := ⟨hm0, I.bk, Nat.le_trans I.ok.bsz I.ok.above⟩
    have hr1 : Room (k + 1) X.A := hr.mono hk
    have hl : ([Value.ref a] ++ []).length = ps.length := by
      obtain ⟨_, _, ys, _, _, _, z2, z3, _⟩ := id q
      rw [← M.fn.len _ _ _ _ z3, ← z2.length]
      rfl
    refine PySem.W.repr_K (by have := hr1.un; show X.A.units + 1 < _; omega) Fr0 I.ok.mod.kin J M.mt.at_ M.mt.fn (wpAny_call ?_)
    refine codeAny_mono (M.fn.run X.A.in1 X.stack s H ⟨[.ref a], []⟩ [.ref a] [.ref a] _ (fun _ _ _ => False) hgd hr1.in1 I.env0.in1 (M.bn _ [.ref a] I.kIn hl) (.cons rfl .nil) q) fun z s' hz => ?_
    match z, hz with
    | .error er, hz => exact passAt (W := fun _ _ _ _ => False) takes_none5 σ pins H s er s' I hz
    | .ok (.ret u), hz =>
      obtain ⟨v, H', I3, rv, x, ev, q3⟩ := I.after hz
      subst ev
      obtain ⟨t, rfl⟩ := rv
      exact ⟨.str x, H', I3, ⟨t, rfl⟩, q3⟩
    | .ok .next, hz => exact False.elim hz
    | .ok .brk, hz => exact False.elim hz
    | .ok .cont, hz => exact False.elim hz
  · obtain ⟨a, dx, gs, rfl, hm, q⟩ := hx
    obtain ⟨v, rfl, r1⟩ := rvs1 rv
    cases r1.loc
    obtain ⟨fs, hH, hf⟩ := rh.ins hm
    exact ⟨a, dx, fs, rfl, hH, G, m, [.l a], _, _, rh, .cons (.l a) .nil, q, fun v y G1 m1 H1 e1 rh1 rv1 ⟨x, e, f⟩ => by subst e; exact ⟨x, rv1.str, cv _ _ G1 m1 H1 e1 rh1 (.d (.str x)) f⟩, fun _ _ _ _ _ _ _ _ _ z => z⟩
end
end Dl
/-! D41: lambdas within a comprehension; try: call() except E as e: SUITE; return x, the suite read by the layer. -/
namespace Dl
open PySem PySem.Spec PyProof.Rows L2 Evl
theorem lamS_r {o scope : Scope} {env : Env} (sc0 : Scope) (e : relabel o env = relabel o (sEnv sc0)) (h : LamX.lamSB (relabel o (sEnv sc0)) scope = true) : LamX.LamS (relabel o env) scope := by
  rw [e]; exact LamX.lamS_by h
/-- {} as data -/
theorem de_dict0 {X : Cx} {W : WX} {pos : Pos} : DE X W (.Dict [] [] pos) (xC (.d (.dict []))) := ⟨fun {G r m σ H F P Q} rs rh hx cv cx => se_of pe_dnewK fun p hp => by
  obtain ⟨e1, r1⟩ := rh.data (o := .dK []) hp
  exact cv _ _ _ m _ e1 r1 (.d (.dic (kvs := []) (ks := []) (ds := []) (.inl upd_same) .nil .nil rfl)) hx⟩
/-- the suite of the first except clause of a try that stands first -/
def suiteOf : List Stmt → List Stmt
  | .Try _ (.ExceptHandler _ _ b _ :: _) _ _ _ :: _ => b
  | _ => []
/-- the suite's context -/
abbrev cxSu (pr : Program) (w : World) (K : PySem.W.Frag) (mg : Str → Option Value) (base : Heap) (N : List Str) (x : Str) (sc : Scope) (g : Addr) (cd : Value) (A : Around) (outer : List Env) (s : Shared) (H : Hp) (E : XK) (b : Addr) (pn : List (Addr × Obj)) : Cx :=
  (cxD pr w K mg base N x sc g cd A outer s H E).suite b pn
abbrev r0Su (N : List Str) (i : Nat) (b : Addr) : Ro := (List.replicate N.length none).set i (some (.v (.ref b)))
/-- what the suite, the exception b of class cls in slot i, answers -/
def SuOk (pr : Program) (w : World) (K : PySem.W.Frag) (mg : Str → Option Value) (base : Heap) (N : List Str) (x : Str) (sc : Scope) (k i : Nat) (body : List Stmt) (de : DEx) : Prop :=
  ∀ (g : Addr) (cd : Value) (A : Around) (outer : List Env) (s : Shared) (H : Hp) (E : XK) (b : Addr) (pn : List (Addr × Obj)) (cls : Value), BxE (cxSu pr w K mg base N x sc g cd A outer s H E b pn) k b cls →
    ∃ t, DSs (cxSu pr w K mg base N x sc g cd A outer s H E b pn) (WE1 Eno) body t ∧ ∀ m F, de cls m F → t { nx := fun _ _ => False, rt := F } (r0Su N i b) m
abbrev d_err (K : PySem.W.Frag) (CE : Addr) (x0 : Str) (de : DEx) : XTh → XTh := fun tl m F P => tl m (fun _ m1 => F (.d (.str x0)) m1) (fun cls fs m1 => fs = [] ∧ PySem.W.exmOne K cls (.ref CE) = some true ∧ de cls m1 F)
theorem rs_none {K : PySem.W.Frag} {G : Hp} : ∀ (σ : L2.St), Rs K G σ (List.replicate σ.length none)
  | [] => .nil
  | _ :: σ => .cons (.any _) (rs_none σ)
theorem err_gives {pr : Program} {w : World} {K : PySem.W.Frag} {mg : Str → Option Value} {base : Heap} {N : List Str} {x a e n x0 : Str} {sc : Scope} {g CE : Addr} {k : Nat} {cd : Value} {i j2 : Nat} {de : DEx} {b0 : Stmt} {body : List Stmt}
    {p1 p2 p3 p5 p10 p11 p22 p25 : Pos} (S : FnScope N [a] sc) (hge : sc.names.lookup e = some .globalImplicit) (hme : mg e = some (.ref CE)) (hde : (e == ("__debug__" : Str)) = false)
    (hi : N[i]? = some n) (hil : i < N.length) (hn : sc.names.lookup n = some .local)
    (h0 : ∀ f : Addr, (L2.start N [V.ref f])[0]? = some (some (V.ref f))) (SU : SuOk pr w K mg base N x sc k i (b0 :: body) de)
    (X : Cx) (y1 : X.prog = pr) (y2 : X.w = w) (y3 : X.K = K) (y4 : X.mg = mg) (y5 : X.base = base) :
    GivesD X N x sc g cd [.Try [.Expr (.Call (.Name a p1) [] [] p2) p3] [.ExceptHandler (some (.Name e p5)) (some n) (b0 :: body) p10] [] [] p11, .Return (some (.Constant (.str x0) j2 p22)) p25] a k (d_err K CE x0 de) := by
  subst y1 y2 y3 y4 y5
  intro f s H G m F P Q E tl hgd hr act rh hx cv cx
  have hnm : Names (cxG X N x sc g cd s H E) e (.ref CE) := ⟨hge, hde, .inl hme⟩
  have last : PS (cxG X N x sc g cd s H E) (.Return (some (.Constant (.str x0) j2 p22)) p25) _ := ps_ret pe_str
  refine ⟨_, pss_cons (ps_try_as (X := cxG X N x sc g cd s H E) (i := i) (Wout := WE1 E)
    (tb := fun W' D τ Hz => ∃ Ec : XK, (∀ cls d σ' H', Ec cls d H' → W' cls d σ' H') ∧ τ[0]? = some (some (.ref f)) ∧ ∃ G1 m1 F1 P1, Ex G G1 ∧ Rh X.K G1 m1 Hz ∧ tl m1 F1 P1 ∧ CvE X.K G1 F1 (fun v H1 => D.nx τ H1) ∧ CvX X.K G1 P1 Ec)
    (ts := fun b cls d D τ Hz => (∃ τ0 : L2.St, τ = τ0.set i (some (.ref b))) ∧ d = none ∧ ∃ G1 m1 F1, Rh X.K G1 m1 Hz ∧ de cls m1 F1 ∧ CvE X.K G1 F1 D.rt)
    rfl rfl S.nd hi hn hnm (takes_of rfl rfl rfl rfl) (fun W' pn xe tk' _ => ?_) (fun b oe cls d pn hz hf => ?_)) (pss_one last), ?_⟩
  · refine ⟨fun pz z τ Hz D J ⟨Ec, hW, z1, G1, m1, F1, P1, z2, z3, z4, z5, z6⟩ => ?_⟩
    have hc := act W' pn xe Ec p1 p2 tk' hW
    have hall := pss_one (ps_expr (pos := p3) hc)
    exact hall.run pz z τ Hz D J ⟨z1, G1, m1, F1, P1, z2, z3, z4, z5, z6⟩
  · refine ⟨fun pz z τ Hz D J ⟨z1, z2, G1, m1, F1, z3, z4, z5⟩ => ?_⟩
    subst z2
    have hro : L2H.RoomH k ((cxG X N x sc g cd s H E).suite b ((b, oe) :: pn)).A := ⟨hr.dp, hr.un⟩
    have bx : BxE (cxSu X.prog X.w X.K X.mg X.base N x sc g cd X.A X.stack s H E b ((b, oe) :: pn)) k b cls := ⟨hro, hgd, fun _ _ x => by
      obtain ⟨_, _, _, _, _, _, _, _, _, _, _, _, _, _, _, _, z⟩ := x
      exact z.elim, oe, List.mem_cons_self, hz, hf⟩
    obtain ⟨t, hd, ht⟩ := SU g cd X.A X.stack s H E b ((b, oe) :: pn) cls bx
    have rs : Rs X.K G1 τ (r0Su N i b) := by
      obtain ⟨τ0, rfl⟩ := z1
      have hl : (τ0.set i (some (V.ref b))).length = N.length := J.len
      rw [List.length_set] at hl
      have := (rs_none (K := X.K) (G := G1) τ0).set (RV.v (V.ref b)) i
      rw [hl] at this
      exact this
    exact hd.run (E := D) rs z3 (ht m1 F1 z4) ⟨fun _ _ _ _ _ _ _ _ q => q.elim, fun v y G' m' H' e1 rh1 rv1 q => z5 v y G' m' H' e1 rh1 rv1 q, fun _ _ _ _ _ _ _ _ q => q.elim, fun _ _ _ _ _ _ _ _ q => q.elim, fun _ _ _ _ _ _ _ _ _ _ _ _ q => q.elim⟩ pz z J
  · refine ⟨fun cls d H' => ∃ G1 m1 fs, Rh X.K G1 m1 H' ∧ Ex G G1 ∧ XF X.K G1 H' d fs ∧ fs = [] ∧ PySem.W.exmOne X.K cls (.ref CE) = some true ∧ de cls m1 F, fun cls d σ' H' ⟨G1, m1, fs, w1, w2, w3, w4, w5, w6⟩ => ⟨true, w5, fun hb c _ => ⟨⟨_, rfl⟩, ?_, G1, m1, F, w1, w6, cv.mono w2⟩, fun z => nomatch z⟩,
      h0 f, G, m, _, _, Ex.refl G, rh, hx, fun v y G1 m1 H1 e1 rh1 rv1 q => cv _ _ G1 m1 H1 e1 rh1 (.d (.str x0)) q, fun cls d fs G1 m1 H1 e1 rh1 xf ⟨q1, q2, q3⟩ => ⟨G1, m1, fs, rh1, e1, xf, q1, q2, q3⟩⟩
    rcases w3 with ⟨_, h⟩ | ⟨h, _⟩
    · exact h
    · exact absurd w4 h
end Dl
/-! D42: == and != of instances by their own __eq__; isinstance of an instance; x.__class__, C.__name__. -/
namespace PySem.W
open PySem PySem.Calls PyProof.Rows Builtin Builtin.ObjectAttr Builtin.Getset_descriptor
section
variable {prog : Program} {w : World} {A : Around} {E : Value → Shared → Prop} {s : Shared} {K : Frag} {x C L f : Addr} {h₀ : Heap} {m : Str → Option Value} {ox : Obj} {od : Option Obj} {b tb v : Value} {R : Result → Shared → Prop}
/-- C.__name__: the text that the class keeps -/
theorem oname_get {oc : Value} {dd : Option Addr} {dt : Data} {sl : Array (Option Value)} {tp : Value} (X : K.In s.heap) (hl : K.lookup C = some ⟨oc, dd, dt, sl⟩) (ht : typeIn K (.ref C) = some (.type "type")) (hs : (sl[2]?).join = some v) (h : R (.ok (.ret v)) s) :
    codeAny (model prog w) A (.call (.builtin "getset_descriptor.__get__") ⟨[.builtin "type.__name__", .ref C, tp], []⟩) R s := by
  obtain ⟨hh, g, dr, t, os⟩ := s
  have L0 : Looks (model prog w) hh (typeOf (.ref C)) (.type "type") := looks_typeIn X ht
  have L1 : Looks (model prog w) hh (isSubtype (.type "type") (.type "type")) true := Looks.of_pure (by rw [isSubtype_type]; kernel_rfl)
  refine codeAny_call_builtin KF.slot_gs.plain KF.entry_gs (KF.slot_gs.check _ _ _ _ _ _ _ _ ktyn_type (KF.args_gs _ _ _) ?_)
  unfold Builtin.«getset_descriptor.__get__» descrGet
  rw [dga_obj]
  refine wpAny_bind (wpAny_pure ?_)
  unfold descrGetter descrCheckInstance descrNameAndClass isInstance
  simp only [ktyn_owner]
  repeat lk
  refine ⟨Code.quiet_builtin _ (by decide +kernel), codeAny_builtin ktyn_entry ?_⟩
  unfold Builtin.«type.__name__» keptObject
  dsimp only
  have L2 : Looks (model prog w) hh (slotAt C 2) (some v) := by
    unfold slotAt
    exact (Looks.ld (X _ _ hl)).andThen (by show Looks _ _ (pure ((sl[2]?).join)) _; rw [hs]; exact .now)
  repeat lk
  exact h
theorem oname_attr {expr : Bool} {oc : Value} {dd : Option Addr} {dt : Data} {sl : Array (Option Value)} {nm : Str} {tk : Tok} {Q : Value → Shared → Prop} (X : K.In s.heap) (hl : K.lookup C = some ⟨oc, dd, dt, sl⟩) (ht : typeIn K (.ref C) = some (.type "type")) (hs : (sl[2]?).join = some (.str nm tk))
    (ho : nsIn K cStatics "thirdparty.any" = some none) (e : findCls K (.ref C) (.type "type") "__name__" = some (.get (.builtin "getset_descriptor.__get__") (.builtin "type.__name__") (.ref C) (.type "type")))
    (h : Q (.str nm tk) { s with toks := s.toks + 1 }) : wpAny (model prog w) A (getAttr (.ref C) "__name__" expr) Q E s := by
  have L0 : Looks (model prog w) s.heap (typeOf (.ref C)) (.type "type") := looks_typeIn X ht
  have hg : findIn K (.type "type") "__getattribute__" = some (some (.builtin "type.__getattribute__")) := type_tga
  refine cls_open X (looks_opaque X ho) L0 hg (looks_hook X (r := none) (by rfl)) (by show subIn K _ _ = _; rfl) e ?_
  show wpAny _ _ (do ret (← holding [Value.builtin "type.__name__"] (call (.builtin "getset_descriptor.__get__") [.builtin "type.__name__", .ref C, .type "type"]))) _ _ _
  refine wpAny_bind (wpAny_holding (wpAny_call (oname_get (s := { s with toks := s.toks + 1 }) X hl ht hs ?_)))
  exact wpAny_pure (handed_on rfl h)
/-! ### == and != -/
theorem ifBound_B {M : Model} {id : String} {name : Str} {args : List Value} {Q : Option Value → Shared → Prop} (X : K.In s.heap) (I : InstAt s.heap x ox C od) (hs : findIn K (.ref C) name = some (some (.builtin id)))
    (hb : ∀ self, bindSpecial (.builtin id) self = pure (.builtin id, [self])) (h : wpAny M A (call (.builtin id) (.ref x :: args)) (fun v => Q (some v)) E s) : wpAny M A (callSpecialIfBound? (.ref x) name args) Q E s := by
  simp only [callSpecialIfBound?, bindSpecialIfBound?]
  refine wpAny_holding (wpAny_bind (wpAny_bind (wpAny_bind (I.type.here ((looks_findIn X hs).here ?_)))))
  simp only [hb]
  refine wpAny_bind (wpAny_askSetting (wpAny_ite ?_))
  have fin : wpAny M A (call (.builtin id) ([.ref x] ++ args) >>= fun v => pure (some v)) Q E s := wpAny_bind (wpAny_mono h (fun v s' h' => wpAny_pure h') fun _ _ h' => h')
  split
  · exact wpAny_bind (wpAny_pure (wpAny_pure fin))
  · exact wpAny_tryCatch (wpAny_bind (wpAny_pure (wpAny_pure fin)))
theorem tryNe {Q : Option Value → Shared → Prop} (hu : A.units + 1 < cLine) (X : K.In s.heap) (I : InstAt s.heap x ox C od) (hm : mroIn K C (.type "object") = some true) (hne : findIn K (.ref C) "__ne__" = some (some (.builtin "object.__ne__")))
    (he : findIn K (.ref C) "__eq__" = some (some (.ref f))) (hf : isFn K (.ref f) = true) (hcall : wpAny (model prog w) A.in1 (call (.ref f) [.ref x, b]) (fun v s' => ∃ k, v = .bool k ∧ Q (some (.bool (!k))) s') E s) :
    wpAny (model prog w) A (tryCompare (.ref x) "__ne__" b) Q E s := by
  simp only [tryCompare]
  refine wpAny_bind (ifBound_B X I hne F.cmp_object.ne.bind (wpAny_call (codeAny_call_builtin F.cmp_object.ne.plain F.cmpEntry_ne (check_slot F.cmpKind_ne F.cmpSplit_ne (I.type.andThen (looks_mroIn X hm)) (F.cmpArgs_ne _ _) ?_))))
  unfold Builtin.«object.__ne__»
  repeat (first
    | with_reducible refine wpAny_cRoomFor (A := A.in1) hu ?_
    | (refine wpAny_bind (m := callSpecialIfBound? (.ref x) (Str.ofString "__eq__") [b])
        (ifBound_K X I he hf (wpAny_mono hcall (fun v s' hr => by
          obtain ⟨k, rfl, hq⟩ := hr
          repeat (first | exact hq | exact wpAny_pure hq | exact wpAny_truthy_bool hq | (refine wpAny_bind (m := truthy (.bool _)) (wpAny_truthy_bool ?_)) | wp_step)) fun _ _ e => e)))
    | wp_step)
/-- the left one's answer counts: the right one is of no class below -/
theorem cmp_left {op : CmpOp} {Q : Value → Shared → Prop} (hu : A.units < cLine) (X : K.In s.heap) (I : InstAt s.heap x ox C od) (hb : Looks (model prog w) s.heap (typeOf b) tb) (hn : notFirst K C tb = true)
    (one : wpAny (model prog w) A (tryCompare (.ref x) (cmpInfo op).2.1 b) (fun r s' => ∃ v, r = some v ∧ Q v s') E s) : wpAny (model prog w) A (richCompare op (.ref x) b) Q E s := by
  unfold richCompare
  simp only [oneThing_ref]
  refine wpAny_holding (wpAny_bind (wpAny_cRoomFor hu ?_))
  refine wpAny_bind (I.type.here (wpAny_bind (hb.here ?_)))
  split
  · rename_i q
    have e : subIn K tb (.ref C) = some false := by
      rcases Bool.or_eq_true_iff.mp hn with e | e
      · rw [beq_iff_eq.mp e] at q; simp at q
      · exact beq_iff_eq.mp e
    refine wpAny_bind ((looks_subIn X e).here ?_)
    simp only [Bool.false_eq_true, if_false]
    refine wpAny_bind (wpAny_mono one (fun r s' z => ?_) fun _ _ e => e)
    obtain ⟨v, rfl, hq⟩ := z
    exact wpAny_pure hq
  · refine wpAny_bind (wpAny_pure ?_)
    simp only [Bool.false_eq_true, if_false]
    refine wpAny_bind (wpAny_mono one (fun r s' z => ?_) fun _ _ e => e)
    obtain ⟨v, rfl, hq⟩ := z
    exact wpAny_pure hq
/-- the right one is of a class below: it is asked first -/
theorem cmp_right {op : CmpOp} {y D : Addr} {oy : Obj} {oe : Option Obj} {Q : Value → Shared → Prop} (hu : A.units < cLine) (X : K.In s.heap) (I : InstAt s.heap x ox C od) (J : InstAt s.heap y oy D oe) (hne : (Value.ref C != Value.ref D) = true) (hs : subIn K (.ref D) (.ref C) = some true)
    (one : wpAny (model prog w) A (tryCompare (.ref y) (cmpInfo op).2.2 (.ref x)) (fun r s' => ∃ v, r = some v ∧ Q v s') E s) : wpAny (model prog w) A (richCompare op (.ref x) (.ref y)) Q E s := by
  unfold richCompare
  simp only [oneThing_ref]
  refine wpAny_holding (wpAny_bind (wpAny_cRoomFor hu ?_))
  refine wpAny_bind (I.type.here (wpAny_bind (J.type.here ?_)))
  rw [hne, if_pos rfl]
  refine wpAny_bind ((looks_subIn X hs).here ?_)
  rw [if_pos rfl]
  refine wpAny_bind (wpAny_mono one (fun r s' z => ?_) fun _ _ e => e)
  obtain ⟨v, rfl, hq⟩ := z
  repeat (first | exact wpAny_pure hq | refine wpAny_bind ?_ | wp_step)
end
end PySem.W
namespace Dl
open PySem PySem.Spec PyProof.Rows L2 Evl
/-- what isinstance and x.__class__ ask of a class -/
structure ClsI (K : PySem.W.Frag) (C : Addr) : Prop where
  cl : Cls K C
  ha : PySem.W.findIn K (.ref C) "__class__" = some (some (.builtin "object.__class__"))
  hn : PySem.W.specialIn K (.builtin "object.__class__") "__get__" = some (some (.builtin "getset_descriptor.__get__"))
  ht : PySem.W.takesIn K (.builtin "object.__class__") = some true
  hm : PySem.W.mroIn K C (.type "object") = some true
/-- the class at C keeps its name -/
structure NmC (K : PySem.W.Frag) (C : Addr) (nm : Str) : Prop where
  lk : ∃ oc dd dt sl t, K.lookup C = some ⟨oc, dd, dt, sl⟩ ∧ (sl[2]?).join = some (.str nm t)
  ty : PySem.W.typeIn K (.ref C) = some (.type "type")
  fc : PySem.W.findCls K (.ref C) (.type "type") "__name__" = some (.get (.builtin "getset_descriptor.__get__") (.builtin "type.__name__") (.ref C) (.type "type"))
  oq : PySem.W.nsIn K cStatics "thirdparty.any" = some none
section
variable {X : Cx} {W : WX} {e : Expr} {pos : Pos} {ta : XE}
abbrev xClsO (K : PySem.W.Frag) (ta : XE) : XE := fun r m F P => ta r m (fun y m1 => ∃ a C dx gs, y = .l a ∧ m1 a = some (.ins C dx gs) ∧ ClsI K C ∧ F (.v (.ref C)) m1) P
theorem pe_clsO {t : TE} (he : PE X e t) (hb : attributeBase e "__class__" X.env (eval e X.env) = eval e X.env) :
    PE X (.Attribute e "__class__" pos) (fun σ H Q => t σ H fun x H1 => ∃ a C dx fs, x = .ref a ∧ H1 a = some (.ins C dx fs) ∧ ClsI X.K C ∧ Q (.ref C) H1) := by
  refine ⟨fun pins s σ H Q I h => ?_⟩
  refine attr_of hb (thn (he.run pins s σ H _ I h) fun u s1 ⟨x, H1, I1, rx, a, C, dx, fs, ex, ea, L, q⟩ => ?_)
  subst ex
  obtain rfl : u = Value.ref a := rx
  obtain ⟨mA, O, _⟩ := ins_get I1.hok ea
  obtain ⟨od, J, _⟩ := O.look
  obtain ⟨m, hF⟩ := I1.fr
  exact PySem.W.get_class hF I1.ok.mod.kin J (L.cl.get _) L.cl.hd L.ha L.hn L.ht L.hm ⟨.ref C, H1, I1.tok _, rfl, q⟩
theorem de_clsO (K : PySem.W.Frag) (he : DE X W e ta) (hb : attributeBase e "__class__" X.env (eval e X.env) = eval e X.env := by rfl) (hK : X.K = K := by rfl) : DE X W (.Attribute e "__class__" pos) (xClsO K ta) := ⟨fun {G r m σ H F P Q} rs rh hx cv cx => by
  subst hK
  exact se_of (pe_clsO se_pe hb) (he.run rs rh hx (fun w y G1 m1 H1 e1 rh1 rv1 ⟨a, C, dx, gs, q1, q2, q3, q4⟩ => by
    subst q1
    cases rv1.loc
    obtain ⟨fs, hH, hf⟩ := rh1.ins q2
    exact ⟨a, C, dx, fs, rfl, hH, q3, cv _ _ G1 m1 H1 e1 rh1 (.v _) q4⟩) cx)⟩
abbrev xNmO (K : PySem.W.Frag) (ta : XE) : XE := fun r m F P => ta r m (fun y m1 => ∃ C nm, y = .v (.ref C) ∧ NmC K C nm ∧ F (.d (.str nm)) m1) P
theorem pe_nmO {t : TE} (he : PE X e t) (hb : attributeBase e "__name__" X.env (eval e X.env) = eval e X.env) :
    PE X (.Attribute e "__name__" pos) (fun σ H Q => t σ H fun x H1 => ∃ C nm, x = .ref C ∧ NmC X.K C nm ∧ Q (.str nm) H1) := by
  refine ⟨fun pins s σ H Q I h => ?_⟩
  refine attr_of hb (thn (he.run pins s σ H _ I h) fun u s1 ⟨x, H1, I1, rx, C, nm, ex, N, q⟩ => ?_)
  subst ex
  obtain rfl : u = Value.ref C := rx
  obtain ⟨oc, dd, dt, sl, t, h1, h2⟩ := N.lk
  exact PySem.W.oname_attr I1.kIn h1 N.ty h2 N.oq N.fc ⟨.str nm, H1, I1.tok _, ⟨t, rfl⟩, q⟩
theorem de_nmO (K : PySem.W.Frag) (he : DE X W e ta) (hb : attributeBase e "__name__" X.env (eval e X.env) = eval e X.env := by rfl) (hK : X.K = K := by rfl) : DE X W (.Attribute e "__name__" pos) (xNmO K ta) := ⟨fun {G r m σ H F P Q} rs rh hx cv cx => by
  subst hK
  exact se_of (pe_nmO se_pe hb) (he.run rs rh hx (fun w y G1 m1 H1 e1 rh1 rv1 ⟨C, nm, q1, q2, q3⟩ => by
    subst q1
    cases rv1
    exact ⟨C, nm, rfl, q2, cv _ _ G1 m1 H1 e1 rh1 (.d (.str nm)) q3⟩) cx)⟩
end
/-- a value's class -/
inductive TyO (K : PySem.W.Frag) (m : Mu) : Y → Value → Prop
  | d (x : PyData) : TyO K m (.d x) (.type (tyD x))
  | lst {p : Addr} {ys : List Y} : m p = some (.lst ys) → TyO K m (.l p) (.type "list")
  | ins {a C dx : Addr} {gs : List (Str × Y)} : m a = some (.ins C dx gs) → ClsI K C → TyO K m (.l a) (.ref C)
theorem tyO_ok {K : PySem.W.Frag} {G H : Hp} {m : Mu} {v : V} {y : Y} {t : Value} (rh : Rh K G m H) (rv : RV K G v y) (h : TyO K m y t) : TyX K H v t := by
  cases h with
  | d x => exact tyX_ok rh rv.da
  | lst e =>
    cases rv.loc
    obtain ⟨ws, hH, _⟩ := rh.lst e
    exact .base (.lst hH)
  | ins e L =>
    cases rv.loc
    obtain ⟨fs, hH, _⟩ := rh.ins e
    exact .base (.ins hH L.cl L.ha L.hn L.ht L.hm)
section
variable {X : Cx}
abbrev xIsO (K : PySem.W.Frag) : XRC := fun ys m F => ∃ y c t cv b, ys = [y, .v c] ∧ ((∃ C, c = .ref C ∧ cv = .ref C) ∨ ∃ T, c = .ty T ∧ cv = .type T) ∧ TyO K m y t ∧ PySem.W.kitOne K t cv = some b ∧ F (.d (.bool b)) m
theorem cd_isO : CallD X (.builtin "isinstance") (xIsO X.K) := ⟨_, call_isi, fun {G m H vs ys F Q} rh rv hx cv => by
  obtain ⟨y, c, t, u, b, rfl, hc, hy, e, f⟩ := hx
  obtain ⟨v, w, rfl, r1, r2⟩ := rvs2 rv
  cases r2
  refine ⟨v, c, t, u, b, rfl, ?_, tyO_ok rh r1 hy, e, cv.at rh (.d (.bl b)) f⟩
  rcases hc with ⟨C, rfl, rfl⟩ | ⟨T, rfl, rfl⟩
  · exact .own C
  · exact .ty T⟩
theorem kisO (K : PySem.W.Frag) (hK : X.K = K := by rfl) : CallD X (.builtin "isinstance") (xIsO K) := by
  subst hK; exact cd_isO
/-! ### == and != -/
/-- x == y by the class of x; x != y by it -/
structure EqC (K : PySem.W.Frag) (C : Addr) : Prop where
  ne : PySem.W.findIn K (.ref C) "__ne__" = some (some (.builtin "object.__ne__"))
  ci : ClsI K C
abbrev opOf (neg : Bool) : CmpOp := if neg then .NotEq else .Eq
abbrev xEqL1 (K : PySem.W.Frag) (neg : Bool) (C : Addr) (d : DSp) : XR := fun y z m F => ∃ a dx gs t, y = .l a ∧ m a = some (.ins C dx gs) ∧ TyO K m z t ∧ PySem.W.notFirst K C t = true ∧ d [y, z] m (fun w m' => ∃ k, w = .d (.bool k) ∧ F (.d (.bool (neg != k))) m') (fun _ _ _ => False)
abbrev xEqR1 (K : PySem.W.Frag) (neg : Bool) (D : Addr) (d : DSp) : XR := fun y z m F => ∃ a C dx gs b dy hs, y = .l a ∧ m a = some (.ins C dx gs) ∧ z = .l b ∧ m b = some (.ins D dy hs) ∧ (Value.ref C != Value.ref D) = true ∧ PySem.W.subIn K (.ref D) (.ref C) = some true ∧
  d [z, y] m (fun w m' => ∃ k, w = .d (.bool k) ∧ F (.d (.bool (neg != k))) m') (fun _ _ _ => False)
variable {k j : Nat} {f C : Addr} {fd : FuncData} {ps : List Str} {d : DSp}
/-- the instance's own method is called with the other value -/
theorem own_try (neg : Bool) (M : MF X.prog X.w X.K X.mg X.base C "__eq__" k f fd ps d) (E0 : EqC X.K C) (hr : Room (k + 1) X.A) (hgd : X.A.guards = some []) {pins : List (Addr × Obj)} {s : Shared} {σ : L2.St} {H : Hp} {a dx : Addr} {fs : List (Str × V)} {z : V} {u : Value} {Q : VK}
    (I : Inv X pins σ H s) (ea : H a = some (.ins C dx fs)) (rz : RelV z u) (q : cz X.K d [.ref a, z] H (fun v H' => ∃ k, v = .bl k ∧ Q (.bl (neg != k)) H') (fun _ _ _ => False)) :
    wpAny (model X.prog X.w) X.A (tryCompare (.ref a) (cmpInfo (opOf neg)).2.1 u) (fun r s' => ∃ v, r = some v ∧ EP X pins σ Q v s') X.xe s := by
  obtain ⟨mA, O, _⟩ := ins_get I.hok ea
  obtain ⟨od, J, _⟩ := O.look
  have hl : ([Value.ref a, u]).length = ps.length := by
    obtain ⟨_, _, ys, _, _, _, z2, z3, _⟩ := id q
    rw [← M.fn.len _ _ _ _ z3, ← z2.length]
    rfl
  have go : ∀ A : Around, A.guards = some [] → Room k A → Env0 X.prog X.w X.K X.mg X.base A X.stack s H → wpAny (model X.prog X.w) A (call (.ref f) [.ref a, u]) (fun v s' => ∃ k, v = .bool k ∧ EP X pins σ Q (.bool (neg != k)) s') X.xe s := fun A hg hrA e0 => by
    refine wpAny_call (codeAny_mono (M.fn.run A X.stack s H ⟨[.ref a, u], []⟩ [.ref a, u] [.ref a, z] _ (fun _ _ _ => False) hg hrA e0 (M.bn _ [.ref a, u] I.kIn hl) (.cons rfl (.cons rz .nil)) q) fun y s' hz => ?_)
    match y, hz with
    | .error er, hz => exact passAt (W := fun _ _ _ _ => False) takes_none5 σ pins H s er s' I hz
    | .ok (.ret v), hz =>
      obtain ⟨v', H', I3, rv, k, ev, q3⟩ := I.after hz
      subst ev
      cases rv
      exact ⟨k, rfl, .bl (neg != k), H', I3, rfl, q3⟩
    | .ok .next, hz => exact False.elim hz
    | .ok .brk, hz => exact False.elim hz
    | .ok .cont, hz => exact False.elim hz
  cases neg with
  | false =>
    show wpAny _ X.A (tryCompare (.ref a) "__eq__" u) _ _ _
    unfold tryCompare
    refine wpAny_bind (PySem.W.ifBound_K I.kIn J M.mt.at_ M.mt.fn (wpAny_mono (go X.A hgd (hr.mono (Nat.le_succ k)) I.env0) (fun v s' hv => ?_) fun _ _ e => e))
    obtain ⟨k, rfl, hq⟩ := hv
    exact wpAny_pure ⟨_, rfl, by simpa using hq⟩
  | true =>
    show wpAny _ X.A (tryCompare (.ref a) "__ne__" u) _ _ _
    have hu : X.A.units + 1 < cLine := by have := hr.un; omega
    refine PySem.W.tryNe hu I.kIn J E0.ci.hm E0.ne M.mt.at_ M.mt.fn (wpAny_mono (go X.A.in1 hgd hr.in1 I.env0.in1) (fun v s' hv => ?_) fun _ _ e => e)
    obtain ⟨k, rfl, hq⟩ := hv
    exact ⟨k, rfl, _, rfl, by simpa using hq⟩
theorem cmpOf (neg : Bool) (v u : Value) : compareOp (opOf neg) v u = richCompare (opOf neg) v u := by cases neg <;> rfl
theorem opd_eqL1 (neg : Bool) (M : MF X.prog X.w X.K X.mg X.base C "__eq__" k f fd ps d) (E0 : EqC X.K C) (hr : Room j X.A) (hgd : X.A.guards = some []) (hk : k + 1 ≤ j) : OpD X (compareOp (opOf neg)) (xEqL1 X.K neg C d) := by
  have hr1 : Room (k + 1) X.A := hr.mono hk
  refine ⟨fun x y H Q => ∃ a dx fs t, x = .ref a ∧ H a = some (.ins C dx fs) ∧ TyX X.K H y t ∧ PySem.W.notFirst X.K C t = true ∧ cz X.K d [x, y] H (fun v H' => ∃ k, v = .bl k ∧ Q (.bl (neg != k)) H') (fun _ _ _ => False), ?_, fun {G m H v w y z F Q} rh rv rw hx cv => ?_⟩
  · intro pins s σ H x y v u Q I rx ry ⟨a, dx, fs, t, ex, ea, ty, hn, q⟩
    subst ex
    cases rx
    rw [cmpOf]
    obtain ⟨mA, O, _⟩ := ins_get I.hok ea
    obtain ⟨od, J, _⟩ := O.look
    obtain ⟨Pk, Z, pk, _⟩ := kit_of I ry ty
    exact PySem.W.cmp_left (by have := hr1.un; omega) I.kIn J (Z.ty _ _ I.kIn pk) hn (own_try neg M E0 hr1 hgd I ea ry q)
  · obtain ⟨a, dx, gs, t, rfl, hm, hy, hn, q⟩ := hx
    cases rv.loc
    obtain ⟨fs, hH, hf⟩ := rh.ins hm
    exact ⟨a, dx, fs, t, rfl, hH, tyO_ok rh rw hy, hn, G, m, [.l a, z], _, _, rh, .cons rv (.cons rw .nil), q, fun v y G1 m1 H1 e1 rh1 rv1 ⟨k, e, f⟩ => by subst e; exact ⟨k, by cases rv1.da; rfl, cv _ _ G1 m1 H1 e1 rh1 (.d (.bl _)) f⟩, fun _ _ _ _ _ _ _ _ _ z => z⟩
theorem opd_eqR1 (neg : Bool) (M : MF X.prog X.w X.K X.mg X.base C "__eq__" k f fd ps d) (E0 : EqC X.K C) (hr : Room j X.A) (hgd : X.A.guards = some []) (hk : k + 1 ≤ j) : OpD X (compareOp (opOf neg)) (xEqR1 X.K neg C d) := by
  have hr1 : Room (k + 1) X.A := hr.mono hk
  refine ⟨fun x y H Q => ∃ a B dx fs b dy gs, x = .ref a ∧ H a = some (.ins B dx fs) ∧ y = .ref b ∧ H b = some (.ins C dy gs) ∧ (Value.ref B != Value.ref C) = true ∧ PySem.W.subIn X.K (.ref C) (.ref B) = some true ∧ cz X.K d [y, x] H (fun v H' => ∃ k, v = .bl k ∧ Q (.bl (neg != k)) H') (fun _ _ _ => False), ?_, fun {G m H v w y z F Q} rh rv rw hx cv => ?_⟩
  · intro pins s σ H x y v u Q I rx ry ⟨a, B, dx, fs, b, dy, gs, ex, ea, ey, eb, hn, hs, q⟩
    subst ex ey
    cases rx
    cases ry
    rw [cmpOf]
    obtain ⟨mA, O, _⟩ := ins_get I.hok ea
    obtain ⟨od, J, _⟩ := O.look
    obtain ⟨mB, O2, _⟩ := ins_get I.hok eb
    obtain ⟨od2, J2, _⟩ := O2.look
    refine PySem.W.cmp_right (by have := hr1.un; omega) I.kIn J J2 hn hs ?_
    have e : (cmpInfo (opOf neg)).2.2 = (cmpInfo (opOf neg)).2.1 := by cases neg <;> rfl
    rw [e]
    exact own_try neg M E0 hr1 hgd I eb (show L2.RelV (V.ref a) (Value.ref a) from rfl) q
  · obtain ⟨a, B, dx, gs, b, dy, hs, rfl, hm, rfl, hm2, hn, hsub, q⟩ := hx
    cases rv.loc
    cases rw.loc
    obtain ⟨fs, hH, hf⟩ := rh.ins hm
    obtain ⟨fs2, hH2, hf2⟩ := rh.ins hm2
    exact ⟨a, B, dx, fs, b, dy, fs2, rfl, hH, rfl, hH2, hn, hsub, G, m, [.l b, .l a], _, _, rh, .cons rw (.cons rv .nil), q, fun v y G1 m1 H1 e1 rh1 rv1 ⟨k, e, f⟩ => by subst e; exact ⟨k, by cases rv1.da; rfl, cv _ _ G1 m1 H1 e1 rh1 (.d (.bl _)) f⟩, fun _ _ _ _ _ _ _ _ _ z => z⟩
theorem keqL (K : PySem.W.Frag) (neg : Bool) (M : MF X.prog X.w X.K X.mg X.base C "__eq__" k f fd ps d) (E0 : EqC X.K C) (hr : Room j X.A) (hgd : X.A.guards = some []) (hk : k + 1 ≤ j := by decide) (hK : X.K = K := by rfl) : OpD X (compareOp (opOf neg)) (xEqL1 K neg C d) := by
  subst hK; exact opd_eqL1 neg M E0 hr hgd hk
theorem keqR (K : PySem.W.Frag) (neg : Bool) (M : MF X.prog X.w X.K X.mg X.base C "__eq__" k f fd ps d) (E0 : EqC X.K C) (hr : Room j X.A) (hgd : X.A.guards = some []) (hk : k + 1 ≤ j := by decide) (hK : X.K = K := by rfl) : OpD X (compareOp (opOf neg)) (xEqR1 K neg C d) := by
  subst hK; exact opd_eqR1 neg M E0 hr hgd hk
end
end Dl
/-! D43: str(x) of whole numbers and texts; x.join(texts); list.extend(list). -/
namespace Dl
open PySem PySem.Spec PyProof.Rows L2 Evl
section
variable {X : Cx}
abbrev xStrU : XRC := fun ys m F => (∃ i, ys = [.d (.int i)] ∧ i.natAbs.log2 < 1920 ∧ F (.d (.str (toString i))) m) ∨ ∃ a, ys = [.d (.str a)] ∧ F (.d (.str a)) m
theorem cd_strU : CallD X (.type "str") xStrU := by
  refine ⟨fun xs H Q => (∃ i, xs = [.int i] ∧ i.natAbs.log2 < 1920 ∧ Q (.str (toString i)) H) ∨ ∃ a, xs = [.str a] ∧ Q (.str a) H, ?_, fun {G m H vs ys F Q} rh rv hx cv => ?_⟩
  · intro pins s σ H xs us Q I r h
    rcases h with h | h
    · exact call_str_int pins s σ H xs us Q I r h
    · exact SkE.call_str_str pins s σ H xs us Q I r h
  · rcases hx with ⟨i, rfl, hi, f⟩ | ⟨a, rfl, f⟩
    · obtain ⟨v, rfl, r1⟩ := rvs1 rv
      exact .inl ⟨i, by rw [r1.int], hi, cv.at rh (.d (.str _)) f⟩
    · obtain ⟨v, rfl, r1⟩ := rvs1 rv
      exact .inr ⟨a, by rw [r1.str], cv.at rh (.d (.str _)) f⟩
/-- x.join(ys), a list or a tuple of texts -/
abbrev xJoin : XRM := fun y ys m F => ∃ a z xs, y = .d (.str a) ∧ ys = [z] ∧ SqY m z (xs.map fun x : Str => Y.d (.str x)) ∧ (xs.map (·.length)).sum + xs.length * a.length ≤ 16777216 ∧ F (.d (.str (Txt.join a xs))) m
theorem md_join : MtD X "str.join" xJoin := ⟨_, mt_join, fun {G m H v y vs ys F Q} rh rv rvs hx cv => by
  obtain ⟨a, z, xs, rfl, rfl, hz, hl, f⟩ := hx
  obtain ⟨w, rfl, rw⟩ := rvs1 rvs
  obtain ⟨p, ws, rfl, s1, q⟩ := sqY_ok rh rw hz
  have e : ws = xs.map V.str := by
    clear s1 hl f hz cv
    induction xs generalizing ws with
    | nil => cases q; rfl
    | cons x xs ih =>
      cases q with
      | cons h t => rw [h.str, ih _ t]; rfl
  subst e
  exact ⟨a, p, xs, by rw [rv.str], rfl, s1, hl, cv.at rh (.d (.str _)) f⟩⟩
/-- l.extend(k), both lists that change -/
abbrev xExtL : XRM := fun y ys m F => ∃ p q zs ws, y = .l p ∧ ys = [.l q] ∧ m p = some (.lst zs) ∧ m q = some (.lst ws) ∧ zs.length + ws.length ≤ 10000 ∧ F (.d .none) (mu m p (.lst (zs ++ ws)))
theorem md_extendL : MtD X "list.extend" xExtL := ⟨_, mt_extend, fun {G m H v y vs ys F Q} rh rv rvs hx cv => by
  obtain ⟨p, q, zs, ws, rfl, rfl, hp, hq, hz, f⟩ := hx
  obtain ⟨w, rfl, rw⟩ := rvs1 rvs
  cases rv.loc
  cases rw.loc
  obtain ⟨us, e3, q3⟩ := rh.lst hp
  obtain ⟨us2, e4, q4⟩ := rh.lst hq
  exact ⟨p, q, us, us2, rfl, rfl, e3, e4, by rw [q3.length, q4.length]; exact Nat.le_trans hz szl, cv .non _ G _ _ (Ex.refl G) (rh.write hp (.lst (q3.app q4))) (.d .non) f⟩⟩
end
section
variable {X : Cx}
/-- list(..), a list that is to change -/
abbrev xListM : XRC := fun ys m F => ∃ y zs, ys = [y] ∧ SqY m y zs ∧ ∀ p, m p = none → F (.l p) (mu m p (.lst zs))
theorem cd_listM : CallD X (.type "list") xListM := ⟨_, call_list_of, fun {G m H vs ys F Q} rh rv hx cv => by
  obtain ⟨y, zs, rfl, hs, f⟩ := hx
  obtain ⟨v, rfl, rw⟩ := rvs1 rv
  obtain ⟨p, ws, rfl, s1, q⟩ := sqY_ok rh rw hs
  exact ⟨p, ws, rfl, s1, fun l hl => lstM_ok rh q hl f cv⟩⟩
end
/-! ### a comprehension whose items are drawn: the pen at p is written again and again -/
section
variable {r : Ro} {m : Mu} {F : Y → Mu → Prop} {g : XG} {tt : XT} {te : XE} {vs : List Nat}
theorem lc_pen {α : Type} (enc : α → PyData) (A : List α → Prop) {n : Nat} {p : Addr} {l : List Y} (hn : n ≤ 10000) (hl : PenL l) (hp : m p = some (.lst l)) (h0 : A [])
    (ht : ∀ (xs : List α) (l' : List Y) (M : Mu), xs.length < n → A xs → PenL l' → M p = some (.lst l') → (∀ b o, b ≠ p → m b = some o → M b = some o) → ∀ C : Y → Mu → Prop, (∀ x l2 M2, A (xs ++ [x]) → PenL l2 → Mle (mu M p (.lst l2)) M2 → C (.d (enc x)) M2) →
      g (.d (.int (0 + (xs.length : Int)))) (wipeR r vs) M (fun r2 M2 => tt r2 M2 (fun b M3 => if b = true then te r2 M3 C P0 else False) P0))
    (hf : ∀ (xs : List α) l' m', A xs → xs.length = n → PenL l' → Mle (mu m p (.lst l')) m' → F (.d (.list (xs.map enc))) m')
    (htt : ∀ r2 M2 (C : Bool → Mu → Prop), tt r2 M2 (fun b M3 => if b = true then C true M3 else False) P0 → tt r2 M2 C P0 := by intro r2 M2 C h; exact h)
    (hg : ∀ y r1 M1 (C D : Ro → Mu → Prop), (∀ r2 M2, C r2 M2 → D r2 M2) → g y r1 M1 C → g y r1 M1 D := by intro y r1 M1 C D h q; exact h _ _ q) : LcZ finD (wkRange 0 n) g tt te vs r m F := by
  intro D hD
  have pD : p ≠ D := fun e => by rw [e, hD] at hp; cases hp
  refine ⟨fun i acc M => ∃ (xs : List α) (l' : List Y), acc = (xs.map enc).map Y.d ∧ A xs ∧ xs.length = i ∧ PenL l' ∧ Mle (mu (mu m D (.lst acc)) p (.lst l')) M, ⟨[], l, rfl, h0, rfl, hl, ?_⟩, ?_⟩
  · rw [mu_self ((mu_ne pD).trans hp)]; exact Mle.refl
  rintro i acc M hi ⟨xs, l', rfl, hA, rfl, hl', hM⟩
  have hDM : M D = some (.lst ((xs.map enc).map Y.d)) := hM _ _ ((mu_ne pD.symm).trans mu_same)
  refine ⟨hDM, trivial, fun hlt => ?_, fun he => ?_⟩
  · refine hg _ _ _ _ _ (fun r2 M2 q => htt r2 M2 _ q) (ht xs l' M hlt hA hl' (hM _ _ mu_same) (fun b o hb e => hM _ _ (by rw [mu_ne hb, mu_ne (fun q => by rw [q, hD] at e; cases e)]; exact e)) _ (fun x l2 M2 hx hl2 hM2 => ⟨hM2 _ _ ((mu_ne pD.symm).trans hDM), ?_, xs ++ [x], l2, by rw [List.map_append, List.map_append]; rfl, hx, by rw [List.length_append]; rfl, hl2, ?_⟩))
    · rw [List.length_map, List.length_map]
      have hi' : xs.length < n := hlt
      omega
    · have e1 : (xs.map enc).map Y.d ++ [Y.d (enc x)] = ((xs ++ [x]).map enc).map Y.d := by rw [List.map_append, List.map_append]; rfl
      intro b o hb
      by_cases q1 : b = p
      · subst q1
        rw [mu_same] at hb; cases hb
        rw [mu_ne pD]; exact hM2 _ _ mu_same
      · rw [mu_ne q1] at hb
        by_cases q2 : b = D
        · subst q2
          rw [mu_same] at hb; cases hb
          exact mu_same
        · rw [mu_ne q2] at hb
          rw [mu_ne q2]
          exact hM2 _ _ (by rw [mu_ne q1]; exact hM _ _ (by rw [mu_ne q1, mu_ne q2]; exact hb))
  · refine ⟨xs.map enc, rfl, hf xs l' _ hA he hl' fun b o hb => ?_⟩
    show (if b = D then none else M b) = some o
    by_cases q1 : b = p
    · subst q1
      rw [mu_same] at hb; cases hb
      rw [if_neg pD]; exact hM _ _ mu_same
    · rw [mu_ne q1] at hb
      have q2 : b ≠ D := fun q => by rw [q, hD] at hb; cases hb
      rw [if_neg q2]
      exact hM _ _ (by rw [mu_ne q1, mu_ne q2]; exact hb)
end
section
variable {r : Ro} {m : Mu} {F : Y → Mu → Prop} {g : XG} {tt : XT} {te : XE} {vs : List Nat}
/-- a comprehension over typed data whose list is tracked -/
theorem lc_typedM {α : Type} (enc : α → PyData) (f : α → PyData) {xs : List α} {y : Y} (hn : xs.length ≤ 10000) (hy : ∀ p, y ≠ .l p)
    (ht : ∀ x M, x ∈ xs → Mle m M → ∀ (C : Y → Mu → Prop) (N : Mu → Prop), (∀ M', Mle M M' → C (.d (f x)) M') → g (.d (enc x)) (wipeR r vs) M (fun r2 M2 => tt r2 M2 (fun b M3 => if b = true then te r2 M3 C P0 else N M3) P0))
    (hf : ∀ D m', m D = none → Mle (mu m D (.lst ((xs.map f).map Y.d))) m' → F (.l D) m') : LcZ finM (wkSeq m y ((xs.map enc).map Y.d)) g tt te vs r m F := by
  have hl : ((xs.map enc).map Y.d).length = xs.length := by rw [List.length_map, List.length_map]
  refine lc_go (k := wkSeq m y ((xs.map enc).map Y.d)) (fun i => xs[i]?.map fun x => Y.d (f x)) (by show ((xs.map enc).map Y.d).length ≤ _; rw [hl]; exact hn) (fun M hM p e => absurd e (hy p)) (fun i M hi hM C N hC hN => ?_) (fun D M hD hM => ?_)
  · have hi' : i < xs.length := by
      have hi2 : i < ((xs.map enc).map Y.d).length := hi
      rwa [hl] at hi2
    have e1 : xs[i]? = some xs[i] := List.getElem?_eq_getElem hi'
    rw [e1] at hC hN
    exact ⟨.d (enc xs[i]), by rw [List.getElem?_map, List.getElem?_map, e1]; rfl, ht _ M (List.getElem_mem hi') hM C N fun m' hm' => hC _ m' rfl hm'⟩
  · have ek : (List.range ((xs.map enc).map Y.d).length).filterMap (fun i => xs[i]?.map fun x => Y.d (f x)) = (xs.map f).map Y.d := by
      rw [hl]
      have := fm_all (fun x => some (Y.d (f x))) xs
      rw [show (fun i => xs[i]?.map fun x => Y.d (f x)) = fun i => xs[i]?.bind fun x => some (Y.d (f x)) by funext i; cases xs[i]? <;> rfl, this, List.filterMap_eq_map', List.map_map]
      rfl
    have hM' : Mle (mu m D (.lst ((List.range ((xs.map enc).map Y.d).length).filterMap (fun i => xs[i]?.map fun x => Y.d (f x))))) M := hM
    rw [ek] at hM'
    exact hf D M hD hM'
end
end Dl
namespace Dl
open PySem PySem.Spec PyProof.Rows L2 Evl
abbrev top (i : Nat) : Stmt := PySem.Challenge.pw_eventsim_k78_models_written.main.body.getD i (.Pass ⟨0, 0, 0, 0⟩)

section
variable {P : Program} {w : World} {K : PySem.W.Frag} {mg : Str → Option Value} {base : Heap}


abbrev s_is_between : Stmt := top 16
abbrev N_is_between : List Str := ["thing", "low", "high"]
theorem sc_is_between : FnScope N_is_between ["thing", "low", "high"] (defScope s_is_between) := ⟨rfl, rfl, rfl, by decide +kernel, rfl, by decide +kernel, by decide +kernel⟩
def d_is_between : DSp := fun ys m F _ => ∃ d lo hi, ys = [.d d, .d (.int lo), .d hi] ∧ (hi = .none ∨ ∃ h, hi = .int h) ∧ F (.d (.bool (isBn d lo hi))) m
theorem ok_is_between {f : Addr} {fd : FuncData} (F : Fun K "is_between" "is_between" s_is_between f fd) (T : Txt K mg)  : FnD P w K mg base 1 f fd ["thing", "low", "high"] d_is_between := by
  refine Dl.Fun.dok F sc_is_between _ (fun cdv A outer s H E B hp =>
      (dss_cons (ds_if (DW.dt (dw_or (dt_not (dt_tru (de_cb (kisi K) rfl T.b_isinstance boot_isinstance (da_cons (de_var (pv 0)) (da_cons (de_ty rfl T.b_int boot_int) da_nil))))) (dw_or1 (dt_tru (de_cb (kisi K) rfl T.b_isinstance boot_isinstance (da_cons (de_var (pv 0)) (da_cons (de_ty rfl T.b_bool boot_bool) da_nil)))))))
      (dss_one (ds_ret (de_bl)))
      dss_nil)
      (dss_one (ds_ret (de_and (de_cmp opd_le (de_var (pv 1)) (de_var (pv 0)) (nomark _)) (de_one (de_or (de_cmp opd_isN (de_var (pv 2)) (de_non) (nomark _)) (de_one (de_cmp opd_le (de_var (pv 0)) (de_var (pv 2)) (nomark _)))))))))) (fun ys m F P h => ?_)
  obtain ⟨d, lo, hi, rfl, hh, h⟩ := h
  refine ⟨rfl, _, rfl, _, _, _, rfl, isi_int d, _, rfl, ?_⟩
  cases d with
  | int x =>
    refine ⟨_, rfl, _, _, _, rfl, isi_bool _, _, rfl, _, rfl, _, rfl, _, rfl, ?_⟩
    rcases hh with rfl | ⟨u, rfl⟩
    · change F (.d (.bool (decide (lo ≤ x)))) m at h
      refine iteB (fun h1 => ?_) (fun h1 => ?_)
      · have h1' : decide (lo ≤ x) = true := h1
        rw [h1'] at h
        exact ⟨_, rfl, rfl, _, rfl, h⟩
      · have h1' : decide (lo ≤ x) = false := h1
        rw [h1'] at h
        exact h
    · change F (.d (.bool (decide (lo ≤ x) && decide (x ≤ u)))) m at h
      refine iteB (fun h1 => ?_) (fun h1 => ?_)
      · have h1' : decide (lo ≤ x) = true := h1
        rw [h1', Bool.true_and] at h
        exact ⟨_, rfl, rfl, _, rfl, _, rfl, _, rfl, h⟩
      · have h1' : decide (lo ≤ x) = false := h1
        rw [h1', Bool.false_and] at h
        exact h
  | bool b => exact ⟨_, rfl, _, _, _, rfl, isi_bool _, _, rfl, (by unfold isBn at h; rcases hh with rfl | ⟨u, rfl⟩ <;> exact h)⟩
  | _ => (unfold isBn at h; rcases hh with rfl | ⟨u, rfl⟩ <;> exact h)
abbrev s_is_tuple : Stmt := top 29
abbrev N_is_tuple : List Str := ["thing", "least", "most"]
theorem sc_is_tuple : FnScope N_is_tuple ["thing", "least", "most"] (defScope s_is_tuple) := ⟨rfl, rfl, rfl, by decide +kernel, rfl, by decide +kernel, by decide +kernel⟩
def d_is_tuple : DSp := fun ys m F _ => ∃ d lo hi, ys = [.d d, .d (.int lo), .d hi] ∧ (hi = .none ∨ ∃ h, hi = .int h) ∧ F (.d (.bool (isT d lo hi))) m
theorem ok_is_tuple {f : Addr} {fd : FuncData} (F : Fun K "_is_tuple" "_is_tuple" s_is_tuple f fd) (T : Txt K mg) {f1 : Addr} {fd1 : FuncData} (G_is_between : GF P w K mg base "is_between" 1 f1 fd1 ["thing", "low", "high"] d_is_between) : FnD P w K mg base 2 f fd ["thing", "least", "most"] d_is_tuple := by
  refine Dl.Fun.dok F sc_is_tuple _ (fun cdv A outer s H E B hp =>
      (dss_one (ds_ret (de_and (de_cb (kisi K) rfl T.b_isinstance boot_isinstance (da_cons (de_var (pv 0)) (da_cons (de_ty rfl T.b_tuple boot_tuple) da_nil))) (de_one (de_gf G_is_between B.hr B.gd B.tk rfl (da_cons (de_cb cd_len rfl T.b_len boot_len (da_cons (de_var (pv 0)) da_nil)) (da_cons (de_var (pv 1)) (da_cons (de_var (pv 2)) da_nil))))))))) (fun ys m F P h => ?_)
  obtain ⟨d, lo, hi, rfl, hh, h⟩ := h
  refine ⟨rfl, _, rfl, _, _, _, rfl, isi_tuple d, _, rfl, ?_⟩
  cases d with
  | tuple ds =>
    refine ⟨_, rfl, _, ds.map Y.d, rfl, .inr rfl, _, rfl, _, rfl, _, _, _, rfl, hh, ?_⟩
    rw [List.length_map]
    exact h
  | _ => exact h
abbrev s_is_resource : Stmt := top 30
abbrev N_is_resource : List Str := ["thing"]
theorem sc_is_resource : FnScope N_is_resource ["thing"] (defScope s_is_resource) := ⟨rfl, rfl, rfl, by decide +kernel, rfl, by decide +kernel, by decide +kernel⟩
def d_is_resource : DSp := fun ys m F _ => ∃ p : Str × Int, ys = [.d (resD p)] ∧ F (.d (.bool (okRes p))) m
theorem ok_is_resource {f : Addr} {fd : FuncData} (F : Fun K "is_resource" "is_resource" s_is_resource f fd) (T : Txt K mg) {f1 f2 CL : Addr} {fd1 fd2 : FuncData} {mcL uL : Value} (G_is_between : GF P w K mg base "is_between" 1 f1 fd1 ["thing", "low", "high"] d_is_between) (G_is_tuple : GF P w K mg base "_is_tuple" 2 f2 fd2 ["thing", "least", "most"] d_is_tuple) (k_Line : mg "Line" = some (.ref CL)) (R_Line : ClX.CRead K CL mcL) (V_Line_MOST_UNITS : ClX.CVal K CL mcL "MOST_UNITS" (.int 3) uL) : FnD P w K mg base 3 f fd ["thing"] d_is_resource := by
  refine Dl.Fun.dok F sc_is_resource _ (fun cdv A outer s H E B hp =>
      (dss_one (ds_ret (de_and (de_gf G_is_tuple B.hr B.gd B.tk rfl (da_cons (de_var (pv 0)) (da_cons (de_int) (da_cons (de_int) da_nil)))) (de_and (de_cmp opd_in (de_ix (de_var (pv 0)) (de_int) (by intro _ _; rfl)) (de_gt rfl T.c_DISCIPLINES) (by rfl)) (de_one (de_gf G_is_between B.hr B.gd B.tk rfl (da_cons (de_ix (de_var (pv 0)) (de_int) (by intro _ _; rfl)) (da_cons (de_int) (da_cons (de_cval (de_gr rfl k_Line) R_Line V_Line_MOST_UNITS (fun _ => .d (.int _))) da_nil)))))))))) (fun ys m F P h => ?_)
  obtain ⟨⟨x, u⟩, rfl, h⟩ := h
  refine ⟨rfl, _, rfl, _, _, _, rfl, .inr ⟨_, rfl⟩, _, rfl, ?_⟩
  refine ⟨_, rfl, 0, _, .d (.str x), rfl, rfl, at_zero, .str x, discL.map PyData.str, rfl, rfl, rfl, flat_strs _, _, rfl, ?_⟩
  rw [inD_str]
  unfold okRes at h
  refine iteB (fun h1 => ?_) (fun h1 => ?_)
  · have h1' : decide (x ∈ discL) = true := h1
    rw [h1', Bool.true_and] at h
    exact ⟨_, rfl, 1, _, .d (.int u), rfl, rfl, at_nat (n := 1) rfl, rfl, _, _, _, rfl, .inr ⟨_, rfl⟩, h⟩
  · have h1' : decide (x ∈ discL) = false := h1
    rw [h1', Bool.false_and] at h
    exact h
abbrev s_is_store : Stmt := top 31
abbrev N_is_store : List Str := ["thing", "capacity", "items", "item"]
theorem sc_is_store : FnScope N_is_store ["thing"] (defScope s_is_store) := ⟨rfl, rfl, rfl, by decide +kernel, rfl, by decide +kernel, by decide +kernel⟩
def hBet (lo : Int) (hi : PyData) : Y → Option Y
  | .d x => some (.d (.bool (isBn x lo hi)))
  | _ => none
theorem hBet_all (lo : Int) (hi : PyData) (ds : List PyData) : (ds.map Y.d).filterMap (hBet lo hi) = ((ds.map fun x => isBn x lo hi).map PyData.bool).map Y.d := by
  induction ds with
  | nil => rfl
  | cons d ds ih => exact congrArg (Y.d (.bool (isBn d lo hi)) :: ·) ih
def d_is_store : DSp := fun ys m F _ => ∃ p : Int × List Int, ys = [.d (stoD p)] ∧ p.2.length ≤ 5000 ∧ ∀ m', Mle m m' → F (.d (.bool (okSto p))) m'
theorem ok_is_store {f : Addr} {fd : FuncData} (F : Fun K "is_store" "is_store" s_is_store f fd) (T : Txt K mg) {f1 f2 : Addr} {fd1 fd2 : FuncData} (G_is_between : GF P w K mg base "is_between" 1 f1 fd1 ["thing", "low", "high"] d_is_between) (G_is_tuple : GF P w K mg base "_is_tuple" 2 f2 fd2 ["thing", "least", "most"] d_is_tuple) : FnD P w K mg base 3 f fd ["thing"] d_is_store := by
  refine Dl.Fun.dok F sc_is_store _ (fun cdv A outer s H E B hp =>
      (dss_cons (ds_if (DW.dt (dw_or (dt_not (dt_tru (de_gf G_is_tuple B.hr B.gd B.tk rfl (da_cons (de_var (pv 0)) (da_cons (de_int) (da_cons (de_int) da_nil)))))) (dw_or1 (dt_not (dt_tru (de_gf G_is_between B.hr B.gd B.tk rfl (da_cons (de_ix (de_var (pv 0)) (de_int) (by intro _ _; rfl)) (da_cons (de_int) (da_cons (de_gi rfl T.c_MOST_CAPACITY) da_nil)))))))))
      (dss_one (ds_ret (de_bl)))
      dss_nil)
      (dss_cons (ds_asg (de_var (pv 0)) (dg_tup (n := 2) rfl (dgs_cons (dg_name (i := 1) sc_is_store.nd rfl (by first | exact Or.inl rfl | exact Or.inr rfl)) (dgs_cons (dg_name (i := 2) sc_is_store.nd rfl (by first | exact Or.inl rfl | exact Or.inr rfl)) dgs_nil))))
      (dss_one (ds_ret (de_and (de_gf G_is_tuple B.hr B.gd B.tk rfl (da_cons (de_var (pv 2)) (da_cons (de_int) (da_cons (de_var (pv 1)) da_nil)))) (de_one (de_cb (cd_all rfl) rfl T.b_all boot_all (da_cons (de_lc (fin := finD) finD_ok rfl sc_is_store.nd (di_seq (de_var (pv 2))) (blkOk_by (own := [("item", 3)]) (N := N_is_store) (sc := defScope s_is_store) (by decide +kernel)) (fun _ _ _ _ _ => pg_name (i := 3) sc_is_store.nd rfl (by first | exact Or.inl rfl | exact Or.inr rfl)) (dgw_name (i := 3) (by decide)) (fun _ _ _ _ _ => dts_nil) (fun _ _ _ _ _ => de_gf G_is_between B.hr B.gd takes0 rfl (da_cons (de_var (pv 3)) (da_cons (de_int) (da_cons (de_gi rfl T.c_LAST_ITEM) da_nil))))) da_nil))))))))) (fun ys m F P h => ?_)
  obtain ⟨⟨c, is⟩, rfl, hl, h⟩ := h
  have hl' : is.length ≤ 5000 := hl
  refine ⟨rfl, _, rfl, _, _, _, rfl, .inr ⟨_, rfl⟩, _, rfl, ?_⟩
  refine ⟨_, rfl, 0, _, .d (.int c), rfl, rfl, at_zero, _, _, _, rfl, .inr ⟨_, rfl⟩, _, rfl, ?_⟩
  unfold okSto at h
  refine iteB (fun h1 => ?_) (fun h1 => ?_)
  · have h1' : (!isBn (.int c) 1 (.int 4)) = true := h1
    rw [Bool.not_eq_true'] at h1'
    simp only [h1', Bool.false_and] at h
    exact h m Mle.refl
  have h1' : (!isBn (.int c) 1 (.int 4)) = false := h1
  rw [Bool.not_eq_false'] at h1'
  simp only [h1', Bool.true_and] at h
  refine ⟨_, rfl, tup2 (.inl ⟨_, _, rfl, rfl, rfl⟩) ⟨_, _, rfl, _, _, rfl, rfl, ?_⟩⟩
  refine ⟨_, rfl, _, rfl, _, _, _, rfl, .inr ⟨_, rfl⟩, _, rfl, ?_⟩
  refine bAnd (a := isT (.tuple (is.map PyData.int)) 0 (.int c)) (b := is.all fun i => isBn (.int i) 0 (.int 99)) (m := m) (by show ∀ m', Mle m m' → F (.d (.bool (isBn (.int ((is.map PyData.int).length : Nat)) 0 (.int c) && is.all fun i => isBn (.int i) 0 (.int 99)))) m'; rw [List.length_map]; exact h) Mle.refl fun h2 _ => ?_
  refine ⟨_, rfl, (is.map PyData.int).map Y.d, rfl, ?_⟩
  refine lc_seq (hBet 0 (.int 99)) (by rw [List.length_map, List.length_map]; omega) (fun q e => by cases e) (fun z M hz hM C' N' hC hN => ?_) (fun D M hD hM => ?_)
  · obtain ⟨x, _, rfl⟩ := List.mem_map.mp hz
    exact iteT ⟨_, rfl, _, _, _, rfl, .inr ⟨_, rfl⟩, hC _ M rfl Mle.refl⟩
  · rw [hBet_all] at hM ⊢
    refine fin_d _ rfl hD hM fun m1 hm1 => ?_
    refine ⟨_, _, rfl, rfl, ?_⟩
    rw [List.map_map, all_bools]
    exact h2 m1 hm1
abbrev s_last_numbers : Stmt := top 32
abbrev N_last_numbers : List Str := ["resources", "stores", "gates", "scripts"]
theorem sc_last_numbers : FnScope N_last_numbers ["resources", "stores", "gates", "scripts"] (defScope s_last_numbers) := ⟨rfl, rfl, rfl, by decide +kernel, rfl, by decide +kernel, by decide +kernel⟩
def d_last_numbers : DSp := fun ys m F _ => ∃ a b c d : Int, ys = [.d (.int a), .d (.int b), .d (.int c), .d (.int d)] ∧ ∀ m', Mle m m' → F (.d (lastD ⟨a, b, c, d⟩)) m'
theorem ok_last_numbers {f : Addr} {fd : FuncData} (F : Fun K "last_numbers" "last_numbers" s_last_numbers f fd) (T : Txt K mg)  : FnD P w K mg base 1 f fd ["resources", "stores", "gates", "scripts"] d_last_numbers := by
  refine Dl.Fun.dok F sc_last_numbers _ (fun cdv A outer s H E B hp =>
      (dss_one (ds_ret (de_dict (.cons (de_non) (.cons (de_op opd_sub (de_var (pv 0)) (de_int)) (.cons (de_gi rfl T.c_LAST_RANK) (.cons (de_op opd_sub (de_var (pv 1)) (de_int)) (.cons (de_gi rfl T.c_LAST_ITEM) (.cons (de_op opd_sub (de_var (pv 2)) (de_int)) (.cons (de_op opd_sub (de_var (pv 3)) (de_int)) (.cons (de_gi rfl T.c_LAST_MARK) .nil)))))))) (by decide +kernel) (by simp) (by decide))))) (fun ys m F P h => ?_)
  obtain ⟨a, b, c, d, rfl, h⟩ := h
  refine ⟨rfl, fun p hp => ?_⟩
  refine ⟨_, rfl, _, rfl, _, rfl, _, rfl, [_, _, _, _, _, _, _, _], rfl, mu_same, ?_⟩
  exact h _ ((Mle.new hp).drop hp)
abbrev s_is_plain : Stmt := top 39
abbrev N_is_plain : List Str := ["word", "numbers", "last", "kinds", "number", "kind"]
theorem sc_is_plain : FnScope N_is_plain ["word", "numbers", "last"] (defScope s_is_plain) := ⟨rfl, rfl, rfl, by decide +kernel, rfl, by decide +kernel, by decide +kernel⟩
def hNum (L : Lims) (x k : PyData) : Option Y := match k with
  | .str s => some (.d (.bool (isBn x 0 (lastOf L s))))
  | _ => none
theorem hNum_all (L : Lims) : ∀ (ns : List Int) (ks : List Str), ((ns.map PyData.int).zip (ks.map PyData.str)).filterMap (fun p => hNum L p.1 p.2) = (((ns.zip ks).map fun p => isBn (.int p.1) 0 (lastOf L p.2)).map PyData.bool).map Y.d
  | [], _ => rfl
  | _ :: _, [] => rfl
  | n :: ns, k :: ks => congrArg (Y.d (.bool (isBn (.int n) 0 (lastOf L k))) :: ·) (hNum_all L ns ks)
theorem last_hi (L : Lims) (k : Str) : lastOf L k = .none ∨ ∃ h, lastOf L k = .int h := by
  unfold lastOf
  have h : ∀ d, (lastL L).lookup k = some d → d = .none ∨ ∃ h, d = .int h := by
    intro d hd
    have hm : ∀ l : List (Str × PyData), l.lookup k = some d → ∃ p ∈ l, p.2 = d := by
      intro l
      induction l with
      | nil => intro h; simp at h
      | cons p l ih =>
        intro h
        rw [List.lookup_cons] at h
        split at h
        · cases h; exact ⟨p, by simp, rfl⟩
        · obtain ⟨q, hq, e⟩ := ih h
          exact ⟨q, by simp [hq], e⟩
    obtain ⟨p, hp, rfl⟩ := hm _ hd
    simp only [lastL, List.mem_cons, List.not_mem_nil, or_false] at hp
    rcases hp with rfl | rfl | rfl | rfl | rfl | rfl | rfl | rfl <;> first | exact .inl rfl | exact .inr ⟨_, rfl⟩
  cases e : (lastL L).lookup k with
  | none => exact .inl rfl
  | some d => exact h d e
def d_is_plain : DSp := fun ys m F _ => (∃ L w ns, ys = [.d (.str w), .d (.tuple (ns.map PyData.int)), .d (lastD L)] ∧ ns.length ≤ 1000 ∧ (kindsL.lookup w).isSome = true ∧ ∀ m', Mle m m' → F (.d (.bool (okOp L w ns))) m') ∨ ∃ (L : Lims) (ds : List PyData), ys = [.d (.str "forever"), .d (.tuple ds), .d (lastD L)] ∧ ∀ m', Mle m m' → F (.d (.bool false)) m'
theorem ok_is_plain {f : Addr} {fd : FuncData} (F : Fun K "is_plain" "is_plain" s_is_plain f fd) (T : Txt K mg) {aK f1 : Addr} {fd1 : FuncData} {es : Array DictEntry} {nK : Nat} (D_KINDS : KDict K w aK es nK) (KF : KinF K w aK) (k_KINDS : mg "KINDS" = some (.ref aK)) (G_is_between : GF P w K mg base "is_between" 1 f1 fd1 ["thing", "low", "high"] d_is_between) : FnD P w K mg base 2 f fd ["word", "numbers", "last"] d_is_plain := by
  refine Dl.Fun.dok F sc_is_plain _ (fun cdv A outer s H E B hp =>
      (dss_cons (ds_if (dt_cmp (knotinK D_KINDS) (de_var (pv 0)) (de_gr rfl k_KINDS) (by rfl))
      (dss_one (ds_ret (de_bl)))
      dss_nil)
      (dss_cons (ds_set (i := 3) sc_is_plain.nd rfl (by first | exact Or.inl rfl | exact Or.inr rfl) (kixK K w (de_gr rfl k_KINDS) (de_var (pv 0)) (by intro _ _; rfl)))
      (dss_one (ds_ret (de_and (de_cmp (opd_eq (Dl.Room.u64 B.hr)) (de_cb cd_len rfl T.b_len boot_len (da_cons (de_var (pv 1)) da_nil)) (de_cb cd_len rfl T.b_len boot_len (da_cons (de_var (pv 3)) da_nil)) (nomark _)) (de_one (de_cb (cd_all rfl) rfl T.b_all boot_all (da_cons (de_lc (fin := finD) finD_ok rfl sc_is_plain.nd (di_zip rfl T.b_zip (da_cons (de_var (pv 1)) (da_cons (de_var (pv 3)) da_nil))) (blkOk_by (own := [("number", 4), ("kind", 5)]) (N := N_is_plain) (sc := defScope s_is_plain) (by decide +kernel)) (fun _ _ _ _ _ => pg_tup (n := 2) rfl (pgs_cons (pg_name (i := 4) sc_is_plain.nd rfl (by first | exact Or.inl rfl | exact Or.inr rfl)) (pgs_cons (pg_name (i := 5) sc_is_plain.nd rfl (by first | exact Or.inl rfl | exact Or.inr rfl)) pgs_nil))) (dgw_tup (n := 2) (dgw_cons (dgw_name (i := 4) (by decide)) (dgw_cons (dgw_name (i := 5) (by decide)) dgw_nil))) (fun _ _ _ _ _ => dts_nil) (fun _ _ _ _ _ => de_gf G_is_between B.hr B.gd takes0 rfl (da_cons (de_var (pv 4)) (da_cons (de_int) (da_cons (de_ixD (Dl.Room.u1 B.hr) (de_var (pv 2)) (de_var (pv 5)) (by intro _ _; rfl)) da_nil))))) da_nil))))))))) (fun ys m F P h => ?_)
  rcases h with ⟨L, x, ns, rfl, h2, h1, h⟩ | ⟨L, ds, rfl, h⟩
  · obtain ⟨ks, hk⟩ := Option.isSome_iff_exists.mp h1
    obtain ⟨p, g1, g2, g3⟩ := KF.get hk
    refine ⟨rfl, _, rfl, x, _, rfl, rfl, g1, _, rfl, ?_⟩
    refine ⟨_, rfl, x, aK, _, _, rfl, rfl, g3, (fun G => .d g2.da), ?_⟩
    refine ⟨_, rfl, _, (ns.map PyData.int).map Y.d, rfl, .inr rfl, _, rfl, _, (ks.map PyData.str).map Y.d, rfl, .inr rfl, _, rfl, ?_⟩
    rw [List.length_map, List.length_map, List.length_map, List.length_map]
    have e3 : okOp L x ns = (decide (ns.length = ks.length) && (ns.zip ks).all fun p => isBn (.int p.1) 0 (lastOf L p.2)) := by
      unfold okOp
      rw [hk]
    rw [e3] at h
    have e4 : decide (((ns.length : Nat) : Int) = ((ks.length : Nat) : Int)) = decide (ns.length = ks.length) := decide_eq_decide.mpr (by omega)
    refine bAnd (a := decide (((ns.length : Nat) : Int) = ((ks.length : Nat) : Int))) (by rw [e4]; exact h) Mle.refl fun h5 _ => ?_
    refine ⟨_, rfl, _, rfl, _, _, rfl, ?_⟩
    refine lc_zip (hNum L) (by rw [List.length_map]; omega) (fun y k M hy hkm hM0 C' N' hC hN => ?_) (fun D M hD hM => ?_)
    · obtain ⟨v, _, rfl⟩ := List.mem_map.mp hy
      obtain ⟨s, hsm, rfl⟩ := List.mem_map.mp hkm
      have hl := kinds_last L _ (look_mem hk) s hsm
      refine tup2 (y := .d (.int v)) (z := .d (.str s)) (.inl ⟨_, _, rfl, rfl, rfl⟩) ?_
      exact ⟨_, _, rfl, _, _, rfl, rfl, iteT ⟨_, rfl, _, rfl, _, rfl, _, s, _, rfl, rfl, last_get L hl, _, _, _, rfl, last_hi L s, hC _ M rfl Mle.refl⟩⟩
    · rw [hNum_all] at hM ⊢
      refine fin_d _ rfl hD hM fun m1 hm1 => ?_
      refine ⟨_, _, rfl, rfl, ?_⟩
      rw [all_bools]
      exact h5 m1 hm1
  · exact ⟨rfl, _, rfl, "forever", none, rfl, rfl, KF.nf, _, rfl, h m Mle.refl⟩
abbrev s_is_instruction : Stmt := top 38
abbrev N_is_instruction : List Str := ["thing", "last", "depth"]
theorem sc_is_instruction : FnScope N_is_instruction ["thing", "last", "depth"] (defScope s_is_instruction) := ⟨rfl, rfl, rfl, by decide +kernel, rfl, by decide +kernel, by decide +kernel⟩
mutual
/-- written with the known words; no list is long -/
def smI : Ins → Bool
  | .op w ns => (kindsL.lookup w).isSome && decide (ns.length ≤ 1000)
  | .rep _ b => decide (b.length ≤ 1000) && smIs b
  | .fore b => decide (b.length ≤ 1000) && smIs b
def smIs : List Ins → Bool
  | [] => true
  | i :: is => smI i && smIs is
end
theorem smIs_all : ∀ is : List Ins, smIs is = is.all smI
  | [] => rfl
  | i :: is => by rw [smIs, smIs_all is]; rfl
theorem cut1 {α : Type} (x : α) (xs : List α) : cutD (x :: xs) (some 1) none = xs := by
  unfold cutD
  have h1 : HT.sIx (x :: xs).length 0 (some 1) = 1 := by simp [HT.sIx]
  have h2 : HT.sIx (x :: xs).length (x :: xs).length none = (x :: xs).length := rfl
  rw [h1, h2]
  simp
def d_is_instruction (n : Nat) : DSp := fun ys m F _ => ∃ L i j, ys = [.d (insD i), .d (lastD L), .d (.int j)] ∧ 4 ≤ j + n ∧ smI i = true ∧ ∀ m', Mle m m' → F (.d (.bool (okI L j i))) m'
def d_is_repeat (n : Nat) : DSp := fun ys m F _ => ∃ L k b j, ys = [.d (insD (.rep k b)), .d (lastD L), .d (.int j)] ∧ 4 ≤ j + n ∧ smI (.rep k b) = true ∧ ∀ m', Mle m m' → F (.d (.bool (okI L j (.rep k b)))) m'
def d_are_instructions (n : Nat) : DSp := fun ys m F _ => ∃ L b j, ys = [.d (scrD b), .d (lastD L), .d (.int j)] ∧ 4 ≤ j + n ∧ b.length ≤ 1000 ∧ smIs b = true ∧ ∀ m', Mle m m' → F (.d (.bool (okIs L j b))) m'
def d_is_body (n : Nat) : DSp := fun ys m F _ => ∃ L b j, ys = [.d (scrD b), .d (lastD L), .d (.int j)] ∧ 4 ≤ j + n ∧ b.length ≤ 1000 ∧ smIs b = true ∧ ∀ m', Mle m m' → F (.d (.bool (!b.isEmpty && okIs L j b))) m'
def d_is_bodyP (n : Nat) : DSp := fun ys m F P => ∃ k, n = k + 1 ∧ d_is_body k ys m F P
theorem isT_len {ds : List PyData} {lo : Int} (h : lo ≤ ds.length) : isT (.tuple ds) lo .none = true := by
  show decide (lo ≤ ((ds.length : Nat) : Int)) = true
  exact decide_eq_true h
theorem fo_no : kindsL.lookup ("forever" : Str) = none := by decide +kernel
theorem rep_no : kindsL.lookup ("repeat" : Str) = none := by decide +kernel
theorem op_ne {w : Str} (h : (kindsL.lookup w).isSome = true) : w ≠ "repeat" := fun e => by rw [e, rep_no] at h; cases h
theorem re_fo : decide (("forever" : Str) = "repeat") = false := by decide +kernel
theorem ok_is_instruction {f : Addr} {fd : FuncData} (F : Fun K "_is_instruction" "_is_instruction" s_is_instruction f fd) (T : Txt K mg) {n a : Nat} (ha : 2 ≤ a) {f1 f2 f3 : Addr} {fd1 fd2 fd3 : FuncData} (G_is_plain : GF P w K mg base "is_plain" (a+1) f1 fd1 ["word", "numbers", "last"] d_is_plain) (G_is_tuple : GF P w K mg base "_is_tuple" 2 f2 fd2 ["thing", "least", "most"] d_is_tuple) (G_is_repeat : GF P w K mg base "_is_repeat" (a+1) f3 fd3 ["thing", "last", "depth"] (d_is_repeat n)) : FnD P w K mg base (a+2) f fd ["thing", "last", "depth"] (d_is_instruction n) := by
  refine Dl.Fun.dok F sc_is_instruction _ (fun cdv A outer s H E B hp =>
      (dss_cons (ds_if (DW.dt (dw_or (dt_not (dt_tru (de_gf G_is_tuple B.hr B.gd B.tk rfl (da_cons (de_var (pv 0)) (da_cons (de_int) (da_cons (de_non) da_nil))) (hk := by omega)))) (dw_or1 (dt_not (dt_tru (de_cb (kisi K) rfl T.b_isinstance boot_isinstance (da_cons (de_ix (de_var (pv 0)) (de_int) (by intro _ _; rfl)) (da_cons (de_ty rfl T.b_str boot_str) da_nil))))))))
      (dss_one (ds_ret (de_bl)))
      dss_nil)
      (dss_cons (ds_if (dt_cmp (opd_eq (Dl.Room.u64 B.hr)) (de_ix (de_var (pv 0)) (de_int) (by intro _ _; rfl)) (de_str) (nomark _))
      (dss_one (ds_ret (de_gf G_is_repeat B.hr B.gd B.tk rfl (da_cons (de_var (pv 0)) (da_cons (de_var (pv 1)) (da_cons (de_var (pv 2)) da_nil))) (hk := by omega))))
      dss_nil)
      (dss_one (ds_ret (de_gf G_is_plain B.hr B.gd B.tk rfl (da_cons (de_ix (de_var (pv 0)) (de_int) (by intro _ _; rfl)) (da_cons (de_sl sld_T (de_var (pv 0)) (do_some (de_int)) do_none) (da_cons (de_var (pv 1)) da_nil))) (hk := by omega))))))) (fun ys m F P h => ?_)
  obtain ⟨L, i, j, rfl, hj, hs, h⟩ := h
  refine ⟨rfl, _, rfl, _, _, _, rfl, .inl rfl, ?_⟩
  cases i with
  | op x ns =>
    obtain ⟨h1, h2⟩ := (Bool.and_eq_true _ _).mp hs
    have h2 := of_decide_eq_true h2
    have e1 : insD (.op x ns) = .tuple (.str x :: ns.map PyData.int) := rfl
    rw [e1, isT_len (by show (1 : Int) ≤ (_ + 1 : Nat); omega)]
    refine ⟨true, rfl, ?_⟩
    refine ⟨_, rfl, 0, _, .d (.str x), rfl, rfl, at_zero, _, _, true, rfl, isi_str _, true, rfl, ?_⟩
    refine ⟨_, rfl, 0, _, .d (.str x), rfl, rfl, at_zero, _, rfl, iteE (decide_eq_false (op_ne h1)) ?_⟩
    refine ⟨_, rfl, 0, _, .d (.str x), rfl, rfl, at_zero, _, rfl, 1, rfl, _, rfl, _, rfl, ?_⟩
    rw [cut1]
    exact .inl ⟨L, x, ns, rfl, h2, h1, h⟩
  | rep k b =>
    rw [insD_rep, isT_len (by show (1 : Int) ≤ (3 : Nat); omega)]
    refine ⟨true, rfl, ?_⟩
    refine ⟨_, rfl, 0, _, .d (.str "repeat"), rfl, rfl, at_zero, _, _, true, rfl, isi_str _, true, rfl, ?_⟩
    refine ⟨_, rfl, 0, _, .d (.str "repeat"), rfl, rfl, at_zero, _, rfl, iteI (decide_eq_true rfl) ?_⟩
    exact ⟨_, rfl, _, rfl, _, rfl, L, k, b, j, by rw [insD_rep]; rfl, hj, hs, h⟩
  | fore b =>
    rw [insD_fore, isT_len (by show (1 : Int) ≤ (2 : Nat); omega)]
    refine ⟨true, rfl, ?_⟩
    refine ⟨_, rfl, 0, _, .d (.str "forever"), rfl, rfl, at_zero, _, _, true, rfl, isi_str _, true, rfl, ?_⟩
    refine ⟨_, rfl, 0, _, .d (.str "forever"), rfl, rfl, at_zero, _, rfl, iteE re_fo ?_⟩
    refine ⟨_, rfl, 0, _, .d (.str "forever"), rfl, rfl, at_zero, _, rfl, 1, rfl, _, rfl, _, rfl, ?_⟩
    exact .inr ⟨L, _, rfl, h⟩
abbrev s_is_repeat : Stmt := top 40
abbrev N_is_repeat : List Str := ["thing", "last", "depth"]
theorem sc_is_repeat : FnScope N_is_repeat ["thing", "last", "depth"] (defScope s_is_repeat) := ⟨rfl, rfl, rfl, by decide +kernel, rfl, by decide +kernel, by decide +kernel⟩
theorem ok_is_repeat {f : Addr} {fd : FuncData} (F : Fun K "_is_repeat" "_is_repeat" s_is_repeat f fd) (T : Txt K mg) {n a : Nat} (ha : 2 ≤ a) {f1 f2 f3 : Addr} {fd1 fd2 fd3 : FuncData} (G_is_between : GF P w K mg base "is_between" 1 f1 fd1 ["thing", "low", "high"] d_is_between) (G_is_tuple : GF P w K mg base "_is_tuple" 2 f2 fd2 ["thing", "least", "most"] d_is_tuple) (G_is_body : GF P w K mg base "_is_body" a f3 fd3 ["thing", "last", "depth"] (d_is_bodyP n)) : FnD P w K mg base (a+1) f fd ["thing", "last", "depth"] (d_is_repeat n) := by
  refine Dl.Fun.dok F sc_is_repeat _ (fun cdv A outer s H E B hp =>
      (dss_one (ds_ret (de_and (de_cmp opd_le (de_var (pv 2)) (de_gi rfl T.c_MOST_DEPTH) (nomark _)) (de_and (de_gf G_is_tuple B.hr B.gd B.tk rfl (da_cons (de_var (pv 0)) (da_cons (de_int) (da_cons (de_int) da_nil))) (hk := by omega)) (de_and (de_gf G_is_between B.hr B.gd B.tk rfl (da_cons (de_ix (de_var (pv 0)) (de_int) (by intro _ _; rfl)) (da_cons (de_int) (da_cons (de_gi rfl T.c_MOST_TIMES) da_nil))) (hk := by omega)) (de_one (de_gf G_is_body B.hr B.gd B.tk rfl (da_cons (de_ix (de_var (pv 0)) (de_int) (by intro _ _; rfl)) (da_cons (de_var (pv 1)) (da_cons (de_op opd_add (de_var (pv 2)) (de_int)) da_nil))) (hk := by omega))))))))) (fun ys m F P h => ?_)
  obtain ⟨L, k, b, j, rfl, hj, hs, h⟩ := h
  rw [insD_rep]
  refine ⟨rfl, _, rfl, _, rfl, ?_⟩
  have e : okI L j (.rep k b) = (decide (j ≤ 3) && (isBn (.int k) 0 (.int 5) && (!b.isEmpty && okIs L (j + 1) b))) := rfl
  rw [e] at h
  refine bAnd (a := decide (j ≤ 3)) h Mle.refl fun h1 hj3 => ?_
  have hj3 := of_decide_eq_true hj3
  refine ⟨_, rfl, _, _, _, rfl, .inr ⟨_, rfl⟩, true, rfl, ?_⟩
  refine iteI rfl ?_
  refine ⟨_, rfl, 1, _, .d (.int k), rfl, rfl, at_nat (n := 1) rfl, _, _, _, rfl, .inr ⟨_, rfl⟩, _, rfl, ?_⟩
  refine bAnd (a := isBn (.int k) 0 (.int 5)) h1 Mle.refl fun h2 _ => ?_
  obtain ⟨s1, s2⟩ := (Bool.and_eq_true _ _).mp hs
  refine ⟨_, rfl, 2, _, .d (scrD b), rfl, rfl, at_nat (n := 2) rfl, _, rfl, _, rfl, ?_⟩
  obtain ⟨q, rfl⟩ : ∃ q, n = q + 1 := ⟨n - 1, by omega⟩
  exact ⟨q, rfl, L, b, j + 1, rfl, by omega, of_decide_eq_true s1, s2, h2⟩
abbrev s_are_instructions : Stmt := top 37
abbrev N_are_instructions : List Str := ["things", "last", "depth", "thing"]
theorem sc_are_instructions : FnScope N_are_instructions ["things", "last", "depth"] (defScope s_are_instructions) := ⟨rfl, rfl, rfl, by decide +kernel, rfl, by decide +kernel, by decide +kernel⟩
def hIns (L : Lims) (j : Int) (is : List Ins) (n : Nat) : Y → Option Y := fun _ => is[n]?.map fun i => .d (.bool (okI L j i))
theorem Mle_ex {m m' : Mu} : True := trivial
theorem ok_are_instructions {f : Addr} {fd : FuncData} (F : Fun K "_are_instructions" "_are_instructions" s_are_instructions f fd) (T : Txt K mg) {n a : Nat} (ha : 2 ≤ a) {f1 : Addr} {fd1 : FuncData} (G_is_instruction : GF P w K mg base "_is_instruction" (a+2) f1 fd1 ["thing", "last", "depth"] (d_is_instruction n)) : FnD P w K mg base (a+3) f fd ["things", "last", "depth"] (d_are_instructions n) := by
  refine Dl.Fun.dok F sc_are_instructions _ (fun cdv A outer s H E B hp =>
      (dss_one (ds_ret (de_cb (cd_all rfl) rfl T.b_all boot_all (da_cons (de_lc (fin := finD) finD_ok rfl sc_are_instructions.nd (di_seq (de_var (pv 0))) (blkOk_by (own := [("thing", 3)]) (N := N_are_instructions) (sc := defScope s_are_instructions) (by decide +kernel)) (fun _ _ _ _ _ => pg_name (i := 3) sc_are_instructions.nd rfl (by first | exact Or.inl rfl | exact Or.inr rfl)) (dgw_name (i := 3) (by decide)) (fun _ _ _ _ _ => dts_nil) (fun _ _ _ _ _ => de_gf G_is_instruction B.hr B.gd takes0 rfl (da_cons (de_var (pv 3)) (da_cons (de_var (pv 1)) (da_cons (de_var (pv 2)) da_nil))) (hk := by omega))) da_nil))))) (fun ys m F P h => ?_)
  obtain ⟨L, b, j, rfl, hj, hl, hs, h⟩ := h
  refine ⟨rfl, _, rfl, (b.map insD).map Y.d, rfl, ?_⟩
  refine lc_go (k := wkSeq m (.d (scrD b)) ((b.map insD).map Y.d)) (fun i => b[i]?.map fun i => Y.d (.bool (okI L j i))) (by show ((b.map insD).map Y.d).length ≤ _; rw [List.length_map, List.length_map]; omega) (fun M hM p e => by cases e) (fun i M hi hM C' N' hC hN => ?_) (fun D M hD hM => ?_)
  · have hi' : i < b.length := by
      have hi2 : i < ((b.map insD).map Y.d).length := hi
      rwa [List.length_map, List.length_map] at hi2
    have e1 : b[i]? = some b[i] := List.getElem?_eq_getElem hi'
    rw [e1] at hC hN
    refine ⟨.d (insD b[i]), by rw [List.getElem?_map, List.getElem?_map, e1]; rfl, ?_⟩
    rw [smIs_all] at hs
    exact iteT ⟨_, rfl, _, rfl, _, rfl, L, b[i], j, rfl, hj, List.all_eq_true.mp hs _ (List.getElem_mem hi'), fun m' hm' => hC _ m' rfl hm'⟩
  · have ek : (List.range ((b.map insD).map Y.d).length).filterMap (fun i => b[i]?.map fun i => Y.d (.bool (okI L j i))) = ((b.map fun i => okI L j i).map PyData.bool).map Y.d := by
      rw [List.length_map, List.length_map]
      have := fm_all (fun i => some (Y.d (.bool (okI L j i)))) b
      rw [show (fun i => b[i]?.map fun i => Y.d (.bool (okI L j i))) = fun i => b[i]?.bind fun i => some (Y.d (.bool (okI L j i))) by funext i; cases b[i]? <;> rfl, this, List.filterMap_eq_map', List.map_map, List.map_map]
      rfl
    have hM' : Mle (mu m D (.lst ((List.range ((b.map insD).map Y.d).length).filterMap (fun i => b[i]?.map fun i => Y.d (.bool (okI L j i)))))) M := hM
    show finD D ((List.range ((b.map insD).map Y.d).length).filterMap _) M _
    rw [ek] at hM' ⊢
    refine fin_d _ rfl hD hM' fun m1 hm1 => ?_
    refine ⟨_, _, rfl, rfl, ?_⟩
    rw [all_bools, ← okIs_all]
    exact h m1 hm1
abbrev s_is_body : Stmt := top 36
abbrev N_is_body : List Str := ["thing", "last", "depth"]
theorem sc_is_body : FnScope N_is_body ["thing", "last", "depth"] (defScope s_is_body) := ⟨rfl, rfl, rfl, by decide +kernel, rfl, by decide +kernel, by decide +kernel⟩
theorem ok_is_body {f : Addr} {fd : FuncData} (F : Fun K "_is_body" "_is_body" s_is_body f fd) (T : Txt K mg) {n a : Nat} (ha : 2 ≤ a) {f1 f2 : Addr} {fd1 fd2 : FuncData} (G_is_tuple : GF P w K mg base "_is_tuple" 2 f2 fd2 ["thing", "least", "most"] d_is_tuple) (G_are_instructions : GF P w K mg base "_are_instructions" (a+3) f1 fd1 ["things", "last", "depth"] (d_are_instructions n)) : FnD P w K mg base (a+4) f fd ["thing", "last", "depth"] (d_is_body n) := by
  refine Dl.Fun.dok F sc_is_body _ (fun cdv A outer s H E B hp =>
      (dss_one (ds_ret (de_and (de_gf G_is_tuple B.hr B.gd B.tk rfl (da_cons (de_var (pv 0)) (da_cons (de_int) (da_cons (de_non) da_nil))) (hk := by omega)) (de_one (de_gf G_are_instructions B.hr B.gd B.tk rfl (da_cons (de_var (pv 0)) (da_cons (de_var (pv 1)) (da_cons (de_var (pv 2)) da_nil))) (hk := by omega))))))) (fun ys m F P h => ?_)
  obtain ⟨L, b, j, rfl, hj, hl, hs, h⟩ := h
  refine ⟨rfl, _, rfl, _, _, _, rfl, .inl rfl, _, rfl, ?_⟩
  have e : isT (scrD b) 1 .none = !b.isEmpty := by
    show decide ((1 : Int) ≤ ((b.map insD).length : Nat)) = _
    cases b with
    | nil => rfl
    | cons i is => exact decide_eq_true (by rw [List.length_map]; show (1 : Int) ≤ (_ + 1 : Nat); omega)
  rw [e]
  refine bAnd (a := !b.isEmpty) h Mle.refl fun h1 _ => ?_
  exact ⟨_, rfl, _, rfl, _, rfl, L, b, j, rfl, hj, hl, hs, h1⟩
abbrev s_is_forever : Stmt := top 35
abbrev N_is_forever : List Str := ["thing", "last"]
theorem sc_is_forever : FnScope N_is_forever ["thing", "last"] (defScope s_is_forever) := ⟨rfl, rfl, rfl, by decide +kernel, rfl, by decide +kernel, by decide +kernel⟩
theorem for_no : kindsL.lookup ("forever" : Str) = none := by decide +kernel
theorem op_nf {w : Str} (h : (kindsL.lookup w).isSome = true) : w ≠ "forever" := fun e => by rw [e, for_no] at h; cases h
def d_is_forever : DSp := fun ys m F _ => ∃ L i, ys = [.d (insD i), .d (lastD L)] ∧ smI i = true ∧ ∀ m', Mle m m' → F (.d (.bool (isFore L i))) m'
theorem ok_is_forever {f : Addr} {fd : FuncData} (F : Fun K "_is_forever" "_is_forever" s_is_forever f fd) (T : Txt K mg) {n a : Nat} (ha : 2 ≤ a) (hn : 2 ≤ n) {f1 f2 : Addr} {fd1 fd2 : FuncData} (G_is_tuple : GF P w K mg base "_is_tuple" 2 f2 fd2 ["thing", "least", "most"] d_is_tuple) (G_is_body : GF P w K mg base "_is_body" a f1 fd1 ["thing", "last", "depth"] (d_is_body n)) : FnD P w K mg base (a+2) f fd ["thing", "last"] d_is_forever := by
  refine Dl.Fun.dok F sc_is_forever _ (fun cdv A outer s H E B hp =>
      (dss_one (ds_ret (de_and (de_gf G_is_tuple B.hr B.gd B.tk rfl (da_cons (de_var (pv 0)) (da_cons (de_int) (da_cons (de_int) da_nil))) (hk := by omega)) (de_and (de_cmp (opd_eq (Dl.Room.u64 B.hr)) (de_ix (de_var (pv 0)) (de_int) (by intro _ _; rfl)) (de_str) (nomark _)) (de_one (de_gf G_is_body B.hr B.gd B.tk rfl (da_cons (de_ix (de_var (pv 0)) (de_int) (by intro _ _; rfl)) (da_cons (de_var (pv 1)) (da_cons (de_int) da_nil))) (hk := by omega)))))))) (fun ys m F P h => ?_)
  obtain ⟨L, i, rfl, hs, h⟩ := h
  refine ⟨rfl, _, rfl, _, _, _, rfl, .inr ⟨_, rfl⟩, _, rfl, ?_⟩
  cases i with
  | op x ns =>
    obtain ⟨h1, h2⟩ := (Bool.and_eq_true _ _).mp hs
    refine iteB (fun h3 => ?_) (fun h3 => h m Mle.refl)
    refine ⟨_, rfl, 0, _, .d (.str x), rfl, rfl, at_zero, _, rfl, ?_⟩
    exact iteE (decide_eq_false (op_nf h1)) (h m Mle.refl)
  | rep k b =>
    rw [insD_rep]
    exact h m Mle.refl
  | fore b =>
    obtain ⟨s1, s2⟩ := (Bool.and_eq_true _ _).mp hs
    rw [insD_fore]
    refine iteI rfl ?_
    refine ⟨_, rfl, 0, _, .d (.str "forever"), rfl, rfl, at_zero, _, rfl, iteI (decide_eq_true rfl) ?_⟩
    refine ⟨_, rfl, 1, _, .d (scrD b), rfl, rfl, at_nat (n := 1) rfl, _, rfl, L, b, 2, rfl, by omega, of_decide_eq_true s1, s2, fun m' hm' => ?_⟩
    rw [okIs_all]
    exact h m' hm'
abbrev s_is_script : Stmt := top 34
abbrev N_is_script : List Str := ["thing", "last"]
theorem sc_is_script : FnScope N_is_script ["thing", "last"] (defScope s_is_script) := ⟨rfl, rfl, rfl, by decide +kernel, rfl, by decide +kernel, by decide +kernel⟩
def d_is_script : DSp := fun ys m F _ => ∃ L is, ys = [.d (scrD is), .d (lastD L)] ∧ is.length ≤ 1000 ∧ smIs is = true ∧ ∀ m', Mle m m' → F (.d (.bool (okScr L is))) m'
theorem ok_is_script {f : Addr} {fd : FuncData} (F : Fun K "_is_script" "_is_script" s_is_script f fd) (T : Txt K mg) {n a : Nat} (ha : 2 ≤ a) (hn : 3 ≤ n) {f1 f2 : Addr} {fd1 fd2 : FuncData} (G_is_forever : GF P w K mg base "_is_forever" (a+2) f1 fd1 ["thing", "last"] d_is_forever) (G_are_instructions : GF P w K mg base "_are_instructions" (a+3) f2 fd2 ["things", "last", "depth"] (d_are_instructions n)) : FnD P w K mg base (a+4) f fd ["thing", "last"] d_is_script := by
  refine Dl.Fun.dok F sc_is_script _ (fun cdv A outer s H E B hp =>
      (dss_cons (ds_if (dt_not (dt_tru (de_cb (kisi K) rfl T.b_isinstance boot_isinstance (da_cons (de_var (pv 0)) (da_cons (de_ty rfl T.b_tuple boot_tuple) da_nil)))))
      (dss_one (ds_ret (de_bl)))
      dss_nil)
      (dss_cons (ds_if (DW.dt (dw_and (dt_tru (de_var (pv 0))) (dw_and1 (dt_tru (de_gf G_is_forever B.hr B.gd B.tk rfl (da_cons (de_ix (de_var (pv 0)) (de_neg (de_int)) (by intro _ _; rfl)) (da_cons (de_var (pv 1)) da_nil)) (hk := by omega))))))
      (dss_one (ds_ret (de_gf G_are_instructions B.hr B.gd B.tk rfl (da_cons (de_sl sld_T (de_var (pv 0)) do_none (do_some (de_neg (de_int)))) (da_cons (de_var (pv 1)) (da_cons (de_int) da_nil))) (hk := by omega))))
      dss_nil)
      (dss_one (ds_ret (de_gf G_are_instructions B.hr B.gd B.tk rfl (da_cons (de_var (pv 0)) (da_cons (de_var (pv 1)) (da_cons (de_int) da_nil))) (hk := by omega))))))) (fun ys m F P h => ?_)
  obtain ⟨L, is, rfl, hl, hs, h⟩ := h
  refine ⟨rfl, _, rfl, _, _, _, rfl, isi_tuple _, true, rfl, ?_⟩
  refine ⟨_, rfl, _, (show truD _ = _ from rfl), ?_⟩
  rcases List.eq_nil_or_concat is with rfl | ⟨xs, x, rfl⟩
  · exact ⟨_, rfl, _, rfl, L, [], 1, rfl, by omega, by simp, rfl, h⟩
  rw [List.concat_eq_append] at *
  rw [smIs_all, List.all_append, Bool.and_eq_true] at hs
  have hx : smI x = true := by simpa using hs.2
  have e1 : (xs ++ [x]).map insD = xs.map insD ++ [insD x] := by rw [List.map_append]; rfl
  rw [List.length_append] at hl
  have hl' : xs.length + 1 ≤ 1000 := hl
  have e2 : okScr L (xs ++ [x]) = if isFore L x then xs.all (okI L 1) else (xs ++ [x]).all (okI L 1) := by
    unfold okScr
    rw [List.getLast?_append]
    simp
  rw [e2] at h
  refine iteI (by show (!((xs ++ [x]).map insD).isEmpty) = true; rw [e1]; simp) ?_
  refine ⟨_, rfl, 1, rfl, -1, ((xs ++ [x]).map insD).map Y.d, .d (insD x), rfl, rfl, by rw [e1, List.map_append]; exact at_last, ?_⟩
  refine ⟨_, rfl, L, x, rfl, hx, fun m1 h1 => ⟨_, rfl, iteB (fun hf => ?_) (fun hf => ?_)⟩⟩
  · rw [if_pos hf] at h
    refine ⟨_, rfl, 1, rfl, _, rfl, _, rfl, ?_⟩
    rw [e1, cut_last]
    refine ⟨_, rfl, L, xs, 1, rfl, by omega, by omega, by rw [smIs_all]; exact hs.1, fun m2 h2 => ?_⟩
    rw [okIs_all]
    exact h m2 (h1.trans h2)
  · rw [if_neg (by simp [hf])] at h
    refine ⟨_, rfl, _, rfl, L, xs ++ [x], 1, rfl, by omega, by rw [List.length_append]; exact hl, by rw [smIs_all, List.all_append]; simp [hs.1, hx], fun m2 h2 => ?_⟩
    rw [okIs_all]
    exact h m2 (h1.trans h2)
abbrev s_are_scripts : Stmt := top 33
abbrev N_are_scripts : List Str := ["scripts", "last", "script"]
theorem sc_are_scripts : FnScope N_are_scripts ["scripts", "last"] (defScope s_are_scripts) := ⟨rfl, rfl, rfl, by decide +kernel, rfl, by decide +kernel, by decide +kernel⟩
def d_are_scripts : DSp := fun ys m F _ => ∃ (L : Lims) (ss : List (List Ins)), ys = [.d (.tuple (ss.map scrD)), .d (lastD L)] ∧ ss.length ≤ 1000 ∧ (∀ s ∈ ss, s.length ≤ 1000 ∧ smIs s = true) ∧ ∀ m', Mle m m' → F (.d (.bool (ss.all (okScr L)))) m'
theorem ok_are_scripts {f : Addr} {fd : FuncData} (F : Fun K "_are_scripts" "_are_scripts" s_are_scripts f fd) (T : Txt K mg) {a : Nat} (ha : 2 ≤ a) {f1 : Addr} {fd1 : FuncData} (G_is_script : GF P w K mg base "_is_script" (a+4) f1 fd1 ["thing", "last"] d_is_script) : FnD P w K mg base (a+5) f fd ["scripts", "last"] d_are_scripts := by
  refine Dl.Fun.dok F sc_are_scripts _ (fun cdv A outer s H E B hp =>
      (dss_one (ds_ret (de_cb (cd_all rfl) rfl T.b_all boot_all (da_cons (de_lc (fin := finD) finD_ok rfl sc_are_scripts.nd (di_seq (de_var (pv 0))) (blkOk_by (own := [("script", 2)]) (N := N_are_scripts) (sc := defScope s_are_scripts) (by decide +kernel)) (fun _ _ _ _ _ => pg_name (i := 2) sc_are_scripts.nd rfl (by first | exact Or.inl rfl | exact Or.inr rfl)) (dgw_name (i := 2) (by decide)) (fun _ _ _ _ _ => dts_nil) (fun _ _ _ _ _ => de_gf G_is_script B.hr B.gd takes0 rfl (da_cons (de_var (pv 2)) (da_cons (de_var (pv 1)) da_nil)) (hk := by omega))) da_nil))))) (fun ys m F P h => ?_)
  obtain ⟨L, ss, rfl, hl, hs, h⟩ := h
  refine ⟨rfl, _, rfl, (ss.map scrD).map Y.d, rfl, ?_⟩
  refine lc_typed scrD (fun s => .bool (okScr L s)) (by omega) (fun p e => by cases e) (fun s M hsm hM C' N' hC => ?_) fun m1 h1 => ?_
  · obtain ⟨g1, g2⟩ := hs s hsm
    exact iteT ⟨_, rfl, _, rfl, L, s, rfl, g1, g2, hC⟩
  · refine ⟨_, ss.map (okScr L), rfl, by rw [show (ss.map (okScr L)).map PyData.bool = ss.map fun s => PyData.bool (okScr L s) from List.map_map], ?_⟩
    rw [all_bools]
    exact h m1 h1
abbrev s_has_parts : Stmt := top 27
abbrev N_has_parts : List Str := ["thing", "resources", "stores", "gates", "scripts", "part", "gate"]
theorem sc_has_parts : FnScope N_has_parts ["thing"] (defScope s_has_parts) := ⟨rfl, rfl, rfl, by decide +kernel, rfl, by decide +kernel, by decide +kernel⟩
/-- a model of bounded size whose instructions have the known words -/
structure SmM (M : Mod) : Prop where
  r : M.res.length ≤ 1000
  s : M.sto.length ≤ 1000
  s2 : ∀ p ∈ M.sto, p.2.length ≤ 5000
  g : M.gat.length ≤ 1000
  c : M.scr.length ≤ 1000
  c2 : ∀ s ∈ M.scr, s.length ≤ 1000 ∧ smIs s = true
def d_has_parts : DSp := fun ys m F _ => ∃ M, ys = [.d (modD M)] ∧ SmM M ∧ ∀ m', Mle m m' → F (.d (.bool (okM M))) m'
def hTup : Y → Option Y
  | .d x => some (.d (.bool (isTu x)))
  | _ => none
theorem ok_has_parts {f : Addr} {fd : FuncData} (F : Fun K "has_parts" "has_parts" s_has_parts f fd) (T : Txt K mg) {a : Nat} (ha : 2 ≤ a) {f1 f2 f3 f4 f5 : Addr} {fd1 fd2 fd3 fd4 fd5 : FuncData} (G_is_tuple : GF P w K mg base "_is_tuple" 2 f1 fd1 ["thing", "least", "most"] d_is_tuple) (G_is_resource : GF P w K mg base "is_resource" 3 f2 fd2 ["thing"] d_is_resource) (G_is_store : GF P w K mg base "is_store" 3 f3 fd3 ["thing"] d_is_store) (G_last_numbers : GF P w K mg base "last_numbers" 1 f4 fd4 ["resources", "stores", "gates", "scripts"] d_last_numbers) (G_are_scripts : GF P w K mg base "_are_scripts" (a+5) f5 fd5 ["scripts", "last"] d_are_scripts) : FnD P w K mg base (a+6) f fd ["thing"] d_has_parts := by
  refine Dl.Fun.dok F sc_has_parts _ (fun cdv A outer s H E B hp =>
      (dss_cons (ds_if (DW.dt (dw_or (dt_not (dt_tru (de_gf G_is_tuple B.hr B.gd B.tk rfl (da_cons (de_var (pv 0)) (da_cons (de_int) (da_cons (de_int) da_nil))) (hk := by omega)))) (dw_or1 (dt_not (dt_tru (de_cb (cd_all rfl) rfl T.b_all boot_all (da_cons (de_lc (fin := finD) finD_ok rfl sc_has_parts.nd (di_seq (de_var (pv 0))) (blkOk_by (own := [("part", 5)]) (N := N_has_parts) (sc := defScope s_has_parts) (by decide +kernel)) (fun _ _ _ _ _ => pg_name (i := 5) sc_has_parts.nd rfl (by first | exact Or.inl rfl | exact Or.inr rfl)) (dgw_name (i := 5) (by decide)) (fun _ _ _ _ _ => dts_nil) (fun _ _ _ _ _ => de_cb (kisi K) rfl T.b_isinstance boot_isinstance (da_cons (de_var (pv 5)) (da_cons (de_ty rfl T.b_tuple boot_tuple) da_nil)))) da_nil)))))))
      (dss_one (ds_ret (de_bl)))
      dss_nil)
      (dss_cons (ds_asg (de_var (pv 0)) (dg_tup (n := 4) rfl (dgs_cons (dg_name (i := 1) sc_has_parts.nd rfl (by first | exact Or.inl rfl | exact Or.inr rfl)) (dgs_cons (dg_name (i := 2) sc_has_parts.nd rfl (by first | exact Or.inl rfl | exact Or.inr rfl)) (dgs_cons (dg_name (i := 3) sc_has_parts.nd rfl (by first | exact Or.inl rfl | exact Or.inr rfl)) (dgs_cons (dg_name (i := 4) sc_has_parts.nd rfl (by first | exact Or.inl rfl | exact Or.inr rfl)) dgs_nil))))))
      (dss_one (ds_ret (de_and (de_cmp opd_le (de_cb cd_len rfl T.b_len boot_len (da_cons (de_var (pv 1)) da_nil)) (de_gi rfl T.c_MOST_RESOURCES) (nomark _)) (de_and (de_cmp opd_le (de_cb cd_len rfl T.b_len boot_len (da_cons (de_var (pv 2)) da_nil)) (de_gi rfl T.c_MOST_STORES) (nomark _)) (de_and (de_cmp opd_le (de_cb cd_len rfl T.b_len boot_len (da_cons (de_var (pv 3)) da_nil)) (de_gi rfl T.c_MOST_GATES) (nomark _)) (de_and (de_chain opd_le opd_le (de_int) (de_cb cd_len rfl T.b_len boot_len (da_cons (de_var (pv 4)) da_nil)) (de_gi rfl T.c_MOST_SCRIPTS)) (de_and (de_cb (cd_all rfl) rfl T.b_all boot_all (da_cons (de_lc (fin := finD) finD_ok rfl sc_has_parts.nd (di_seq (de_var (pv 1))) (blkOk_by (own := [("part", 5)]) (N := N_has_parts) (sc := defScope s_has_parts) (by decide +kernel)) (fun _ _ _ _ _ => pg_name (i := 5) sc_has_parts.nd rfl (by first | exact Or.inl rfl | exact Or.inr rfl)) (dgw_name (i := 5) (by decide)) (fun _ _ _ _ _ => dts_nil) (fun _ _ _ _ _ => de_gf G_is_resource B.hr B.gd takes0 rfl (da_cons (de_var (pv 5)) da_nil) (hk := by omega))) da_nil)) (de_and (de_cb (cd_all rfl) rfl T.b_all boot_all (da_cons (de_lc (fin := finD) finD_ok rfl sc_has_parts.nd (di_seq (de_var (pv 2))) (blkOk_by (own := [("part", 5)]) (N := N_has_parts) (sc := defScope s_has_parts) (by decide +kernel)) (fun _ _ _ _ _ => pg_name (i := 5) sc_has_parts.nd rfl (by first | exact Or.inl rfl | exact Or.inr rfl)) (dgw_name (i := 5) (by decide)) (fun _ _ _ _ _ => dts_nil) (fun _ _ _ _ _ => de_gf G_is_store B.hr B.gd takes0 rfl (da_cons (de_var (pv 5)) da_nil) (hk := by omega))) da_nil)) (de_and (de_cb (cd_all rfl) rfl T.b_all boot_all (da_cons (de_lc (fin := finD) finD_ok rfl sc_has_parts.nd (di_seq (de_var (pv 3))) (blkOk_by (own := [("gate", 6)]) (N := N_has_parts) (sc := defScope s_has_parts) (by decide +kernel)) (fun _ _ _ _ _ => pg_name (i := 6) sc_has_parts.nd rfl (by first | exact Or.inl rfl | exact Or.inr rfl)) (dgw_name (i := 6) (by decide)) (fun _ _ _ _ _ => dts_nil) (fun _ _ _ _ _ => de_cmp opd_in (de_var (pv 6)) (de_gt rfl T.c_GATE_WORDS) (by rfl))) da_nil)) (de_one (de_gf G_are_scripts B.hr B.gd B.tk rfl (da_cons (de_var (pv 4)) (da_cons (de_gf G_last_numbers B.hr B.gd B.tk rfl (da_cons (de_cb cd_len rfl T.b_len boot_len (da_cons (de_var (pv 1)) da_nil)) (da_cons (de_cb cd_len rfl T.b_len boot_len (da_cons (de_var (pv 2)) da_nil)) (da_cons (de_cb cd_len rfl T.b_len boot_len (da_cons (de_var (pv 3)) da_nil)) (da_cons (de_cb cd_len rfl T.b_len boot_len (da_cons (de_var (pv 4)) da_nil)) da_nil)))) (hk := by omega)) da_nil)) (hk := by omega))))))))))))))) (fun ys m F P h => ?_)
  obtain ⟨M, rfl, hM, h⟩ := h
  have l1 := hM.r
  have l2 := hM.s
  have l3 := hM.g
  have l4 := hM.c
  refine ⟨rfl, _, rfl, _, _, _, rfl, .inr ⟨_, rfl⟩, true, rfl, ?_⟩
  refine ⟨_, rfl, [.d (.tuple (M.res.map resD)), .d (.tuple (M.sto.map stoD)), .d (.tuple (M.gat.map PyData.str)), .d (.tuple (M.scr.map scrD))], rfl, ?_⟩
  refine lc_seq hTup (Nat.le_of_ble_eq_true rfl) (fun q e => by cases e) (fun z M1 hz hM1 C' N' hC hN => ?_) (fun D M1 hD hM1 => ?_)
  · simp only [List.mem_cons, List.not_mem_nil, or_false] at hz
    rcases hz with rfl | rfl | rfl | rfl <;> exact iteT ⟨_, rfl, _, _, true, rfl, isi_tuple _, hC _ M1 rfl Mle.refl⟩
  refine fin_d [.bool true, .bool true, .bool true, .bool true] rfl hD hM1 fun m1 h1 => ?_
  refine ⟨_, [true, true, true, true], rfl, rfl, true, rfl, ?_⟩
  refine ⟨_, rfl, tup4 ⟨_, _, rfl, _, _, rfl, _, _, rfl, _, _, rfl, rfl, ?_⟩⟩
  unfold okM at h
  refine ⟨_, rfl, _, (M.res.map resD).map Y.d, rfl, .inr rfl, _, rfl, ?_⟩
  rw [List.length_map, List.length_map]
  refine bAnd h h1 fun h _ => ?_
  refine ⟨_, rfl, _, (M.sto.map stoD).map Y.d, rfl, .inr rfl, _, rfl, ?_⟩
  rw [List.length_map, List.length_map]
  refine bAnd h h1 fun h _ => ?_
  refine ⟨_, rfl, _, (M.gat.map PyData.str).map Y.d, rfl, .inr rfl, _, rfl, ?_⟩
  rw [List.length_map, List.length_map]
  refine bAnd h h1 fun h _ => ?_
  refine ⟨_, rfl, _, (M.scr.map scrD).map Y.d, rfl, .inr rfl, _, rfl, ?_⟩
  rw [List.length_map, List.length_map]
  refine iteB (fun ha => ?_) (fun ha => ?_)
  case refine_2 =>
    have ha' : decide ((1 : Int) ≤ (M.scr.length : Nat)) = false := ha
    rw [ha', Bool.false_and, Bool.false_and] at h
    exact ⟨false, rfl, h m1 h1⟩
  have ha' : decide ((1 : Int) ≤ (M.scr.length : Nat)) = true := ha
  rw [ha', Bool.true_and] at h
  refine ⟨_, rfl, ?_⟩
  refine bAnd h h1 fun h _ => ?_
  clear ha ha'
  -- the resources
  refine ⟨_, rfl, (M.res.map resD).map Y.d, rfl, ?_⟩
  refine lc_typed resD (fun p => .bool (okRes p)) (by omega) (fun p e => by cases e) (fun s M2 hsm hM2 C' N' hC => ?_) fun m2 h2 => ?_
  · exact iteT ⟨_, rfl, s, rfl, hC _ Mle.refl⟩
  refine ⟨_, M.res.map okRes, rfl, by rw [show (M.res.map okRes).map PyData.bool = M.res.map fun s => PyData.bool (okRes s) from List.map_map], ?_⟩
  rw [all_bools]
  refine ⟨_, rfl, bAnd h (h1.trans h2) fun h _ => ?_⟩
  -- the stores
  refine ⟨_, rfl, (M.sto.map stoD).map Y.d, rfl, ?_⟩
  refine lc_typed stoD (fun p => .bool (okSto p)) (by omega) (fun p e => by cases e) (fun s M3 hsm hM3 C' N' hC => ?_) fun m3 h3 => ?_
  · exact iteT ⟨_, rfl, s, rfl, hM.s2 s hsm, hC⟩
  refine ⟨_, M.sto.map okSto, rfl, by rw [show (M.sto.map okSto).map PyData.bool = M.sto.map fun s => PyData.bool (okSto s) from List.map_map], ?_⟩
  rw [all_bools]
  refine ⟨_, rfl, bAnd h ((h1.trans h2).trans h3) fun h _ => ?_⟩
  -- the gates
  refine ⟨_, rfl, (M.gat.map PyData.str).map Y.d, rfl, ?_⟩
  refine lc_typed PyData.str (fun g => .bool (decide (g ∈ gateL))) (by omega) (fun p e => by cases e) (fun s M4 hsm hM4 C' N' hC => ?_) fun m4 h4 => ?_
  · refine iteT ⟨_, rfl, .str s, gateL.map PyData.str, rfl, rfl, rfl, flat_strs _, ?_⟩
    show C' (.d (.bool (inD (.str s) (gateL.map PyData.str)))) M4
    rw [inD_str]
    exact hC _ Mle.refl
  refine ⟨_, M.gat.map fun g => decide (g ∈ gateL), rfl, by rw [show (M.gat.map fun g => decide (g ∈ gateL)).map PyData.bool = M.gat.map fun s => PyData.bool (decide (s ∈ gateL)) from List.map_map], ?_⟩
  rw [all_bools]
  refine ⟨_, rfl, bAnd h (((h1.trans h2).trans h3).trans h4) fun h _ => ?_⟩
  refine ⟨_, rfl, _, rfl, _, (M.res.map resD).map Y.d, rfl, .inr rfl, _, rfl, _, (M.sto.map stoD).map Y.d, rfl, .inr rfl, _, rfl, _, (M.gat.map PyData.str).map Y.d, rfl, .inr rfl, _, rfl, _, (M.scr.map scrD).map Y.d, rfl, .inr rfl, ?_⟩
  rw [List.length_map, List.length_map, List.length_map, List.length_map, List.length_map, List.length_map, List.length_map, List.length_map]
  refine ⟨_, _, _, _, rfl, fun m5 h5 => ?_⟩
  exact ⟨limsOf M, M.scr, rfl, l4, hM.c2, fun m6 h6 => h m6 (((((h1.trans h2).trans h3).trans h4).trans h5).trans h6)⟩
abbrev s_units_after : Stmt := top 42
abbrev N_units_after : List Str := ["script", "resource", "units", "instruction", "word"]
theorem sc_units_after : FnScope N_units_after ["script", "resource", "units"] (defScope s_units_after) := ⟨rfl, rfl, rfl, by decide +kernel, rfl, by decide +kernel, by decide +kernel⟩
mutual
def dpI : Ins → Nat
  | .op _ _ => 0
  | .rep _ b => dpL b + 1
  | .fore b => dpL b + 1
def dpL : List Ins → Nat
  | [] => 0
  | i :: is => max (dpI i) (dpL is)
end
mutual
/-- known words with their numbers, repeats of 0 to 5 times -/
def gdI : Ins → Bool
  | .op w ns => (kindsL.lookup w).isSome && !ns.isEmpty
  | .rep k b => (decide (0 ≤ k) && decide (k ≤ 5)) && gdL b
  | .fore b => gdL b
def gdL : List Ins → Bool
  | [] => true
  | i :: is => gdI i && gdL is
end
theorem gdL_all : ∀ is : List Ins, gdL is = is.all gdI
  | [] => rfl
  | i :: is => by rw [gdL, gdL_all is]; rfl
theorem dpL_mem : ∀ {is : List Ins} {i : Ins}, i ∈ is → dpI i ≤ dpL is
  | x :: is, i, h => by
    show _ ≤ max (dpI x) (dpL is)
    rcases List.mem_cons.mp h with rfl | h
    · omega
    · have := dpL_mem h; omega
mutual
/-- one instruction: the count behind it, none where it goes wrong -/
def uI (r : Int) : Ins → Int → Option Int
  | .op w ns, u =>
    let u1 := if (decide (w = "take") && decide (ns.head? = some r)) = true then u + 1 else u
    let u2 := if (decide (w = "give") && decide (ns.head? = some r)) = true then u1 - 1 else u1
    if u2 < 0 then none else some u2
  | .rep _ b, u => if uL r b u ≠ u then none else if u < 0 then none else some u
  | .fore b, u => if uL r b u ≠ u then none else if u < 0 then none else some u
def uL (r : Int) : List Ins → Int → Int
  | [], u => u
  | i :: is, u => match uI r i u with
    | none => -1
    | some u' => uL r is u'
end
def d_units_after (n : Nat) : DSp := fun ys m F _ => ∃ is r u, ys = [.d (scrD is), .d (.int r), .d (.int u)] ∧ dpL is ≤ n ∧ gdL is = true ∧ ∀ m', Mle m m' → F (.d (.int (uL r is u))) m'
def d_units_afterP (n : Nat) : DSp := fun ys m F P => ∃ k, n = k + 1 ∧ d_units_after k ys m F P
theorem s_tk : (decide (("repeat" : Str) = "take") = false ∧ decide (("repeat" : Str) = "give") = false) ∧ (decide (("forever" : Str) = "take") = false ∧ decide (("forever" : Str) = "give") = false) := by decide +kernel
theorem drop_at {α : Type} {xs : List α} {j : Nat} (h : j < xs.length) : xs.drop j = xs[j] :: xs.drop (j + 1) := List.drop_eq_getElem_cons h
theorem in_rf {x : Str} {m : Mu} {F : Y → Mu → Prop} (h : F (.d (.bool (decide (x = "repeat") || decide (x = "forever")))) m) : xIn false (.d (.str x)) (.d (.tuple [.str "repeat", .str "forever"])) m F := by
  refine ⟨.str x, [.str "repeat", .str "forever"], rfl, rfl, rfl, rfl, ?_⟩
  have e := inD_str (x := x) (xs := ["repeat", "forever"])
  show F (.d (.bool (inD (.str x) (List.map PyData.str ["repeat", "forever"])))) m
  rw [e]
  have e2 : decide (x ∈ (["repeat", "forever"] : List Str)) = (decide (x = "repeat") || decide (x = "forever")) := by
    by_cases h1 : x = "repeat" <;> by_cases h2 : x = "forever" <;> simp [h1, h2]
  rw [e2]
  exact h
theorem tk_read {x s y : Str} {v rr : Int} {tl : List PyData} {r : Ro} {m : Mu} {F : Bool → Mu → Prop} {P : XP} (h4 : r[4]? = some (some (.d (.str x)))) (h3 : r[3]? = some (some (.d (.tuple (.str y :: .int v :: tl))))) (h1 : r[1]? = some (some (.d (.int rr)))) (h : F (decide (x = s) && decide (v = rr)) m) :
    xAnd (xB (xOp xEq (xVar 4) (xC (.d (.str s))))) (xB (xOp xEq (xOp xIx (xVar 3) (xC (.d (.int 1)))) (xVar 1))) r m F P := by
  refine ⟨_, h4, _, rfl, iteB (fun hc => ?_) (fun hc => ?_)⟩
  · rw [hc, Bool.true_and] at h
    exact ⟨_, h3, 1, _, .d (.int v), rfl, rfl, at_nat (n := 1) rfl, _, h1, _, rfl, h⟩
  · rw [hc, Bool.false_and] at h
    exact h
theorem ok_units_after {f : Addr} {fd : FuncData} (F : Fun K "_units_after" "_units_after" s_units_after f fd) (T : Txt K mg) {n a : Nat} {f1 : Addr} {fd1 : FuncData} (G_units_after : GF P w K mg base "_units_after" a f1 fd1 ["script", "resource", "units"] (d_units_afterP n)) : FnD P w K mg base (a+1) f fd ["script", "resource", "units"] (d_units_after n) := by
  refine Dl.Fun.dok F sc_units_after _ (fun cdv A outer s H E B hp =>
      (dss_cons (ds_for hp rfl (di_seq (de_var (pv 0))) (dg_name (i := 3) sc_units_after.nd rfl (by first | exact Or.inl rfl | exact Or.inr rfl))
      (dss_cons (ds_set (i := 4) sc_units_after.nd rfl (by first | exact Or.inl rfl | exact Or.inr rfl) (de_ix (de_var (pv 3)) (de_int) (by intro _ _; rfl)))
      (dss_cons (ds_if (DW.dt (dw_and (dt_cmp (opd_eq (Dl.Room.u64 B.hr)) (de_var (pv 4)) (de_str) (nomark _)) (dw_and1 (dt_cmp (opd_eq (Dl.Room.u64 B.hr)) (de_ix (de_var (pv 3)) (de_int) (by intro _ _; rfl)) (de_var (pv 1)) (nomark _)))))
      (dss_one (ds_aug (i := 2) sc_units_after.nd rfl (by first | exact Or.inl rfl | exact Or.inr rfl) (de_int) ip_add))
      dss_nil)
      (dss_cons (ds_if (DW.dt (dw_and (dt_cmp (opd_eq (Dl.Room.u64 B.hr)) (de_var (pv 4)) (de_str) (nomark _)) (dw_and1 (dt_cmp (opd_eq (Dl.Room.u64 B.hr)) (de_ix (de_var (pv 3)) (de_int) (by intro _ _; rfl)) (de_var (pv 1)) (nomark _)))))
      (dss_one (ds_aug (i := 2) sc_units_after.nd rfl (by first | exact Or.inl rfl | exact Or.inr rfl) (de_int) ip_sub))
      dss_nil)
      (dss_cons (ds_if (DW.dt (dw_and (dt_cmp opd_in (de_var (pv 4)) (de_tup (da_cons (de_str) (da_cons (de_str) da_nil))) (by rfl)) (dw_and1 (dt_cmp (opd_ne (Dl.Room.u64 B.hr)) (de_gf G_units_after B.hr B.gd B.tk rfl (da_cons (de_ix (de_var (pv 3)) (de_neg (de_int)) (by intro _ _; rfl)) (da_cons (de_var (pv 1)) (da_cons (de_var (pv 2)) da_nil))) (hk := by omega)) (de_var (pv 2)) (nomark _)))))
      (dss_one (ds_ret (de_neg (de_int))))
      dss_nil)
      (dss_one (ds_if (dt_cmp opd_lt (de_var (pv 2)) (de_int) (nomark _))
      (dss_one (ds_ret (de_neg (de_int))))
      dss_nil)))))))
      (dss_one (ds_ret (de_var (pv 2)))))) (fun ys m F P h => ?_)
  obtain ⟨is, rr, u, rfl, hd, hg, h⟩ := h
  refine ⟨rfl, _, rfl, (is.map insD).map Y.d, rfl, ?_⟩
  refine ⟨fun i rs m' => ∃ u' o3 o4, rs = [some (.d (scrD is)), some (.d (.int rr)), some (.d (.int u')), o3, o4] ∧ uL rr is u = uL rr (is.drop i) u' ∧ Mle m m', ⟨u, _, _, rfl, rfl, Mle.refl⟩, ?_⟩
  rintro i _ m1 hi ⟨u', o3, o4, rfl, hu, hm⟩
  refine ⟨fun _ e => (nomatch e), fun hlt => ?_, fun he => ?_⟩
  case refine_2 =>
    have he' : i = ((is.map insD).map Y.d).length := he
    rw [List.length_map, List.length_map] at he'
    rw [he', List.drop_length] at hu
    refine ⟨_, rfl, ?_⟩
    have hu' : uL rr is u = u' := hu
    rw [← hu']
    exact h m1 hm
  have hlt' : i < is.length := by
    have h2 : i < ((is.map insD).map Y.d).length := hlt
    rwa [List.length_map, List.length_map] at h2
  have e1 : is[i]? = some is[i] := List.getElem?_eq_getElem hlt'
  have hgi : gdI is[i] = true := List.all_eq_true.mp (by rw [← gdL_all]; exact hg) _ (List.getElem_mem hlt')
  have hdi : dpI is[i] ≤ n := Nat.le_trans (dpL_mem (List.getElem_mem hlt')) hd
  rw [drop_at hlt'] at hu
  refine ⟨.d (insD is[i]), by rw [List.getElem?_map, List.getElem?_map, e1]; rfl, ?_⟩
  generalize is[i] = ii at hgi hdi hu
  cases ii with
  | op x ns =>
    obtain ⟨g1, g2⟩ := (Bool.and_eq_true _ _).mp hgi
    obtain ⟨v, ns, rfl⟩ : ∃ v t, ns = v :: t := by
      cases ns with
      | nil => simp at g2
      | cons v t => exact ⟨v, t, rfl⟩
    have nr : decide (x = "repeat") = false := decide_eq_false (op_ne g1)
    have nf : decide (x = "forever") = false := decide_eq_false (op_nf g1)
    have ev : decide ((v :: ns).head? = some rr) = decide (v = rr) := by simp
    have eu : uL rr (.op x (v :: ns) :: is.drop (i + 1)) u' = match (if (if (decide (x = "give") && decide (v = rr)) = true then (if (decide (x = "take") && decide (v = rr)) = true then u' + 1 else u') - 1 else (if (decide (x = "take") && decide (v = rr)) = true then u' + 1 else u')) < 0 then none else some (if (decide (x = "give") && decide (v = rr)) = true then (if (decide (x = "take") && decide (v = rr)) = true then u' + 1 else u') - 1 else (if (decide (x = "take") && decide (v = rr)) = true then u' + 1 else u'))) with
        | none => -1
        | some u'' => uL rr (is.drop (i + 1)) u'' := by
      show (match uI rr (.op x (v :: ns)) u' with | none => -1 | some u'' => uL rr (is.drop (i + 1)) u'') = _
      unfold uI
      simp only [ev]
    rw [eu] at hu
    refine ⟨_, rfl, 0, _, .d (.str x), rfl, rfl, at_zero, ?_⟩
    have hin : inD (.str x) (List.map PyData.str ["repeat", "forever"]) = false := by
      rw [inD_str]
      exact decide_eq_false (by simp [op_ne g1, op_nf g1])
    refine tk_read rfl rfl rfl ?_
    refine iteB (fun c1 => ⟨_, rfl, _, rfl, ?_⟩) (fun c1 => ?_)
    all_goals
      refine tk_read rfl rfl rfl ?_
      refine iteB (fun c2 => ⟨_, rfl, _, rfl, ?_⟩) (fun c2 => ?_)
    all_goals
      simp only [c1, c2, if_true, Bool.false_eq_true, if_false] at hu
      refine ⟨_, rfl, len2 _ _, .str x, [.str "repeat", .str "forever"], rfl, rfl, rfl, rfl, _, rfl, iteE hin ?_⟩
      refine iteF ?_
      refine ⟨_, rfl, _, rfl, iteB (fun c3 => ⟨1, rfl, ?_⟩) (fun c3 => ?_)⟩
      · have c3' := of_decide_eq_true c3
        rw [if_pos c3'] at hu
        rw [hu] at h
        exact h _ hm
      · have c3' := of_decide_eq_false c3
        rw [if_neg c3'] at hu
        exact ⟨_, _, _, rfl, hu, hm⟩
  | rep k b =>
    have hin : inD (.str "repeat") (List.map PyData.str ["repeat", "forever"]) = true := by
      rw [inD_str]
      exact decide_eq_true (by simp)
    obtain ⟨s1, s2⟩ := (Bool.and_eq_true _ _).mp hgi
    obtain ⟨q, rfl⟩ : ∃ q, n = q + 1 := ⟨n - 1, by have : dpL b + 1 ≤ n := hdi; omega⟩
    have hdb : dpL b ≤ q := Nat.le_of_succ_le_succ hdi
    have eu : uL rr (.rep k b :: is.drop (i + 1)) u' = match (if uL rr b u' ≠ u' then none else if u' < 0 then none else some u') with
        | none => -1
        | some u'' => uL rr (is.drop (i + 1)) u'' := rfl
    rw [eu] at hu
    rw [insD_rep]
    refine ⟨_, rfl, 0, _, .d (.str "repeat"), rfl, rfl, at_zero, ?_⟩
    refine ⟨_, rfl, _, rfl, iteE s_tk.1.1 ?_⟩
    refine iteF ⟨_, rfl, _, rfl, iteE s_tk.1.2 ?_⟩
    refine iteF ⟨_, rfl, len2 _ _, .str "repeat", [.str "repeat", .str "forever"], rfl, rfl, rfl, rfl, _, rfl, iteI hin ?_⟩
    refine ⟨_, rfl, 1, rfl, -1, ([PyData.str "repeat", PyData.int k] ++ [scrD b]).map Y.d, .d (scrD b), rfl, rfl, by rw [List.map_append]; exact at_last, _, rfl, _, rfl, q, rfl, b, rr, u', rfl, hdb, s2, fun m2 h2 => ?_⟩
    refine ⟨_, rfl, _, rfl, iteB (fun c => ⟨1, rfl, ?_⟩) (fun c => ?_)⟩
    · have c' : ¬ uL rr b u' = u' := by simpa using c
      rw [if_pos c'] at hu
      rw [hu] at h
      exact h _ (hm.trans h2)
    · have c' : uL rr b u' = u' := by simpa using c
      rw [if_neg (by simpa using c')] at hu
      refine ⟨_, rfl, _, rfl, iteB (fun c3 => ⟨1, rfl, ?_⟩) (fun c3 => ?_)⟩
      · have c3' := of_decide_eq_true c3
        rw [if_pos c3'] at hu
        rw [hu] at h
        exact h _ (hm.trans h2)
      · have c3' := of_decide_eq_false c3
        rw [if_neg c3'] at hu
        exact ⟨_, _, _, rfl, hu, hm.trans h2⟩
  | fore b =>
    have hin : inD (.str "forever") (List.map PyData.str ["repeat", "forever"]) = true := by
      rw [inD_str]
      exact decide_eq_true (by simp)
    obtain ⟨q, rfl⟩ : ∃ q, n = q + 1 := ⟨n - 1, by have : dpL b + 1 ≤ n := hdi; omega⟩
    have hdb : dpL b ≤ q := Nat.le_of_succ_le_succ hdi
    have eu : uL rr (.fore b :: is.drop (i + 1)) u' = match (if uL rr b u' ≠ u' then none else if u' < 0 then none else some u') with
        | none => -1
        | some u'' => uL rr (is.drop (i + 1)) u'' := rfl
    rw [eu] at hu
    rw [insD_fore]
    refine ⟨_, rfl, 0, _, .d (.str "forever"), rfl, rfl, at_zero, ?_⟩
    refine ⟨_, rfl, _, rfl, iteE s_tk.2.1 ?_⟩
    refine iteF ⟨_, rfl, _, rfl, iteE s_tk.2.2 ?_⟩
    refine iteF ⟨_, rfl, len2 _ _, .str "forever", [.str "repeat", .str "forever"], rfl, rfl, rfl, rfl, _, rfl, iteI hin ?_⟩
    refine ⟨_, rfl, 1, rfl, -1, ([PyData.str "forever"] ++ [scrD b]).map Y.d, .d (scrD b), rfl, rfl, by rw [List.map_append]; exact at_last, _, rfl, _, rfl, q, rfl, b, rr, u', rfl, hdb, hgi, fun m2 h2 => ?_⟩
    refine ⟨_, rfl, _, rfl, iteB (fun c => ⟨1, rfl, ?_⟩) (fun c => ?_)⟩
    · have c' : ¬ uL rr b u' = u' := by simpa using c
      rw [if_pos c'] at hu
      rw [hu] at h
      exact h _ (hm.trans h2)
    · have c' : uL rr b u' = u' := by simpa using c
      rw [if_neg (by simpa using c')] at hu
      refine ⟨_, rfl, _, rfl, iteB (fun c3 => ⟨1, rfl, ?_⟩) (fun c3 => ?_)⟩
      · have c3' := of_decide_eq_true c3
        rw [if_pos c3'] at hu
        rw [hu] at h
        exact h _ (hm.trans h2)
      · have c3' := of_decide_eq_false c3
        rw [if_neg c3'] at hu
        exact ⟨_, _, _, rfl, hu, hm.trans h2⟩
abbrev s_is_balanced : Stmt := top 41
abbrev N_is_balanced : List Str := ["script", "resources", "resource"]
theorem sc_is_balanced : FnScope N_is_balanced ["script", "resources"] (defScope s_is_balanced) := ⟨rfl, rfl, rfl, by decide +kernel, rfl, by decide +kernel, by decide +kernel⟩
def balB (R : Nat) (is : List Ins) : Bool := (List.range R).all fun (r : Nat) => decide (uL (r : Int) is 0 = 0)
def d_is_balanced (n : Nat) : DSp := fun ys m F _ => ∃ is R, ys = [.d (scrD is), .d (.int ((R : Nat) : Int))] ∧ dpL is ≤ n ∧ gdL is = true ∧ R ≤ 1000 ∧ ∀ m', Mle m m' → F (.d (.bool (balB R is))) m'
theorem ok_is_balanced {f : Addr} {fd : FuncData} (F : Fun K "_is_balanced" "_is_balanced" s_is_balanced f fd) (T : Txt K mg) {n a : Nat} {f1 : Addr} {fd1 : FuncData} (G_units_after : GF P w K mg base "_units_after" a f1 fd1 ["script", "resource", "units"] (d_units_after n)) : FnD P w K mg base (a+1) f fd ["script", "resources"] (d_is_balanced n) := by
  refine Dl.Fun.dok F sc_is_balanced _ (fun cdv A outer s H E B hp =>
      (dss_one (ds_ret (de_cb (cd_all rfl) rfl T.b_all boot_all (da_cons (de_lc (fin := finD) finD_ok rfl sc_is_balanced.nd (di_range1 rfl T.b_range (da_cons (de_var (pv 1)) da_nil)) (blkOk_by (own := [("resource", 2)]) (N := N_is_balanced) (sc := defScope s_is_balanced) (by decide +kernel)) (fun _ _ _ _ _ => pg_name (i := 2) sc_is_balanced.nd rfl (by first | exact Or.inl rfl | exact Or.inr rfl)) (dgw_name (i := 2) (by decide)) (fun _ _ _ _ _ => dts_nil) (fun _ _ _ _ _ => de_cmp (opd_eq (Dl.Room.u64 B.hr)) (de_gf G_units_after B.hr B.gd takes0 rfl (da_cons (de_var (pv 0)) (da_cons (de_var (pv 2)) (da_cons (de_int) da_nil))) (hk := by omega)) (de_int) (nomark _))) da_nil))))) (fun ys m F P h => ?_)
  obtain ⟨is, R, rfl, hd, hg, hR, h⟩ := h
  refine ⟨rfl, _, rfl, (R : Int), rfl, by omega, by omega, ?_⟩
  rw [Int.toNat_natCast]
  refine lc_rng (fun r => .bool (decide (uL (r : Int) is 0 = 0))) (by omega) (fun i M hi hM C' N' hC => ?_) (fun m1 h1 => ?_)
  · refine iteT ⟨_, rfl, _, rfl, is, _, 0, rfl, hd, hg, fun m2 h2 => ?_⟩
    have := hC m2 h2
    rw [show (0 : Int) + (i : Int) = i by omega]
    exact this
  · refine ⟨_, (List.range R).map (fun (r : Nat) => decide (uL (r : Int) is 0 = 0)), rfl, by rw [show ((List.range R).map fun (r : Nat) => decide (uL (r : Int) is 0 = 0)).map PyData.bool = (List.range R).map fun (r : Nat) => PyData.bool (decide (uL (r : Int) is 0 = 0)) from List.map_map], ?_⟩
    rw [all_bools]
    exact h m1 h1
abbrev s_time_of : Stmt := top 44
abbrev N_time_of : List Str := ["script", "time", "instruction"]
theorem sc_time_of : FnScope N_time_of ["script"] (defScope s_time_of) := ⟨rfl, rfl, rfl, by decide +kernel, rfl, by decide +kernel, by decide +kernel⟩
mutual
/-- the sum of the waits -/
def tI : Ins → Int
  | .op w ns => if decide (w = "wait") = true then ns.head?.getD 0 else 0
  | .rep k b => k * tL b
  | .fore _ => 0
def tL : List Ins → Int
  | [] => 0
  | i :: is => tI i + tL is
end
def d_time_of (n : Nat) : DSp := fun ys m F _ => ∃ is, ys = [.d (scrD is)] ∧ dpL is ≤ n ∧ gdL is = true ∧ ∀ m', Mle m m' → F (.d (.int (tL is))) m'
def d_time_ofP (n : Nat) : DSp := fun ys m F P => ∃ k, n = k + 1 ∧ d_time_of k ys m F P
theorem s_rr : decide (("repeat" : Str) = "repeat") = true := by decide +kernel
theorem s_wt : (decide (("repeat" : Str) = "wait") = false ∧ decide (("forever" : Str) = "wait") = false) ∧ decide (("forever" : Str) = "repeat") = false := by decide +kernel
theorem ok_time_of {f : Addr} {fd : FuncData} (F : Fun K "_time_of" "_time_of" s_time_of f fd) (T : Txt K mg) {n a : Nat} {f1 : Addr} {fd1 : FuncData} (G_time_of : GF P w K mg base "_time_of" a f1 fd1 ["script"] (d_time_ofP n)) : FnD P w K mg base (a+1) f fd ["script"] (d_time_of n) := by
  refine Dl.Fun.dok F sc_time_of _ (fun cdv A outer s H E B hp =>
      (dss_cons (ds_set (i := 1) sc_time_of.nd rfl (by first | exact Or.inl rfl | exact Or.inr rfl) (de_int))
      (dss_cons (ds_for hp rfl (di_seq (de_var (pv 0))) (dg_name (i := 2) sc_time_of.nd rfl (by first | exact Or.inl rfl | exact Or.inr rfl))
      (dss_cons (ds_if (dt_cmp (opd_eq (Dl.Room.u64 B.hr)) (de_ix (de_var (pv 2)) (de_int) (by intro _ _; rfl)) (de_str) (nomark _))
      (dss_one (ds_aug (i := 1) sc_time_of.nd rfl (by first | exact Or.inl rfl | exact Or.inr rfl) (de_ix (de_var (pv 2)) (de_int) (by intro _ _; rfl)) ip_add))
      dss_nil)
      (dss_one (ds_if (dt_cmp (opd_eq (Dl.Room.u64 B.hr)) (de_ix (de_var (pv 2)) (de_int) (by intro _ _; rfl)) (de_str) (nomark _))
      (dss_one (ds_aug (i := 1) sc_time_of.nd rfl (by first | exact Or.inl rfl | exact Or.inr rfl) (de_op opd_mul (de_ix (de_var (pv 2)) (de_int) (by intro _ _; rfl)) (de_gf G_time_of B.hr B.gd B.tk rfl (da_cons (de_ix (de_var (pv 2)) (de_int) (by intro _ _; rfl)) da_nil) (hk := by omega))) ip_add))
      dss_nil))))
      (dss_one (ds_ret (de_var (pv 1))))))) (fun ys m F P h => ?_)
  obtain ⟨is, rfl, hd, hg, h⟩ := h
  refine ⟨rfl, _, rfl, (is.map insD).map Y.d, rfl, ?_⟩
  refine ⟨fun i rs m' => ∃ t o3, rs = [some (.d (scrD is)), some (.d (.int t)), o3] ∧ tL is = t + tL (is.drop i) ∧ Mle m m', ⟨0, _, rfl, by rw [List.drop_zero]; omega, Mle.refl⟩, ?_⟩
  rintro i _ m1 hi ⟨t, o3, rfl, hu, hm⟩
  refine ⟨fun _ e => (nomatch e), fun hlt => ?_, fun he => ?_⟩
  case refine_2 =>
    have he' : i = ((is.map insD).map Y.d).length := he
    rw [List.length_map, List.length_map] at he'
    rw [he', List.drop_length] at hu
    refine ⟨_, rfl, ?_⟩
    have hu' : tL is = t := by have e0 : tL [] = 0 := rfl; omega
    rw [← hu']
    exact h m1 hm
  have hlt' : i < is.length := by
    have h2 : i < ((is.map insD).map Y.d).length := hlt
    rwa [List.length_map, List.length_map] at h2
  have e1 : is[i]? = some is[i] := List.getElem?_eq_getElem hlt'
  have hgi : gdI is[i] = true := List.all_eq_true.mp (by rw [← gdL_all]; exact hg) _ (List.getElem_mem hlt')
  have hdi : dpI is[i] ≤ n := Nat.le_trans (dpL_mem (List.getElem_mem hlt')) hd
  rw [drop_at hlt'] at hu
  have hu2 : tL is = t + (tI is[i] + tL (is.drop (i + 1))) := hu
  clear hu
  refine ⟨.d (insD is[i]), by rw [List.getElem?_map, List.getElem?_map, e1]; rfl, ?_⟩
  generalize is[i] = ii at hgi hdi hu2
  cases ii with
  | op x ns =>
    obtain ⟨g1, g2⟩ := (Bool.and_eq_true _ _).mp hgi
    obtain ⟨v, ns, rfl⟩ : ∃ v t, ns = v :: t := by
      cases ns with
      | nil => simp at g2
      | cons v t => exact ⟨v, t, rfl⟩
    have nr : decide (x = "repeat") = false := decide_eq_false (op_ne g1)
    have et : tI (.op x (v :: ns)) = if decide (x = "wait") = true then v else 0 := rfl
    rw [et] at hu2
    refine ⟨_, rfl, 0, _, .d (.str x), rfl, rfl, at_zero, _, rfl, iteB (fun c1 => ?_) (fun c1 => ?_)⟩
    · rw [if_pos c1] at hu2
      refine ⟨_, rfl, _, rfl, 1, _, .d (.int v), rfl, rfl, at_nat (n := 1) rfl, _, rfl, ?_⟩
      refine ⟨_, rfl, 0, _, .d (.str x), rfl, rfl, at_zero, _, rfl, iteE nr ?_⟩
      exact ⟨t + v, _, rfl, by omega, hm⟩
    · rw [if_neg (by rw [c1]; exact Bool.false_ne_true)] at hu2
      refine ⟨_, rfl, 0, _, .d (.str x), rfl, rfl, at_zero, _, rfl, iteE nr ?_⟩
      exact ⟨t, _, rfl, by omega, hm⟩
  | rep k b =>
    obtain ⟨s1, s2⟩ := (Bool.and_eq_true _ _).mp hgi
    obtain ⟨s3, s4⟩ := (Bool.and_eq_true _ _).mp s1
    have s3 := of_decide_eq_true s3
    have s4 := of_decide_eq_true s4
    obtain ⟨q, rfl⟩ : ∃ q, n = q + 1 := ⟨n - 1, by have : dpL b + 1 ≤ n := hdi; omega⟩
    have hdb : dpL b ≤ q := Nat.le_of_succ_le_succ hdi
    have et : tI (.rep k b) = k * tL b := rfl
    rw [et] at hu2
    rw [insD_rep]
    refine ⟨_, rfl, 0, _, .d (.str "repeat"), rfl, rfl, at_zero, _, rfl, iteE s_wt.1.1 ?_⟩
    refine ⟨_, rfl, 0, _, .d (.str "repeat"), rfl, rfl, at_zero, _, rfl, iteI s_rr ?_⟩
    refine ⟨_, rfl, _, rfl, 1, _, .d (.int k), rfl, rfl, at_nat (n := 1) rfl, ?_⟩
    refine ⟨_, rfl, 2, _, .d (scrD b), rfl, rfl, at_nat (n := 2) rfl, ?_⟩
    refine ⟨q, rfl, b, rfl, hdb, s2, fun m2 h2 => ?_⟩
    refine ⟨.inl ⟨by omega, by omega⟩, ?_⟩
    exact ⟨_, rfl, t + k * tL b, _, rfl, by omega, hm.trans h2⟩
  | fore b =>
    have et : tI (.fore b) = 0 := rfl
    rw [et] at hu2
    rw [insD_fore]
    refine ⟨_, rfl, 0, _, .d (.str "forever"), rfl, rfl, at_zero, _, rfl, iteE s_wt.1.2 ?_⟩
    refine ⟨_, rfl, 0, _, .d (.str "forever"), rfl, rfl, at_zero, _, rfl, iteE s_wt.2 ?_⟩
    exact ⟨t, _, rfl, by omega, hm⟩
abbrev s_makes_progress : Stmt := top 43
abbrev N_makes_progress : List Str := ["script"]
theorem sc_makes_progress : FnScope N_makes_progress ["script"] (defScope s_makes_progress) := ⟨rfl, rfl, rfl, by decide +kernel, rfl, by decide +kernel, by decide +kernel⟩
/-- the body of a closing forever waits -/
def mpB (is : List Ins) : Bool := match is.getLast? with
  | some (.fore b) => decide (1 ≤ tL b)
  | _ => true
def d_makes_progress (n : Nat) : DSp := fun ys m F _ => ∃ is, ys = [.d (scrD is)] ∧ dpL is ≤ n + 1 ∧ gdL is = true ∧ ∀ m', Mle m m' → F (.d (.bool (mpB is))) m'
theorem ne_fv : (decide (("repeat" : Str) = "forever") = false) ∧ decide (("forever" : Str) = "forever") = true := by decide +kernel
theorem ne_s {x : Str} {b : Bool} {m : Mu} {F : Y → Mu → Prop} (hb : decide (x = "forever") = b) (h : F (.d (.bool (!b))) m) : xNe (.d (.str x)) (.d (.str "forever")) m F := by
  subst hb; exact h
theorem ok_makes_progress {f : Addr} {fd : FuncData} (F : Fun K "_makes_progress" "_makes_progress" s_makes_progress f fd) (T : Txt K mg) {n a : Nat} {f1 : Addr} {fd1 : FuncData} (G_time_of : GF P w K mg base "_time_of" a f1 fd1 ["script"] (d_time_of n)) : FnD P w K mg base (a+1) f fd ["script"] (d_makes_progress n) := by
  refine Dl.Fun.dok F sc_makes_progress _ (fun cdv A outer s H E B hp =>
      (dss_cons (ds_if (DW.dt (dw_or (dt_not (dt_tru (de_var (pv 0)))) (dw_or1 (dt_cmp (opd_ne (Dl.Room.u64 B.hr)) (de_ix (de_ix (de_var (pv 0)) (de_neg (de_int)) (by intro _ _; rfl)) (de_int) (by intro _ _; rfl)) (de_str) (nomark _)))))
      (dss_one (ds_ret (de_bl)))
      dss_nil)
      (dss_one (ds_ret (de_cmp opd_ge (de_gf G_time_of B.hr B.gd B.tk rfl (da_cons (de_ix (de_ix (de_var (pv 0)) (de_neg (de_int)) (by intro _ _; rfl)) (de_int) (by intro _ _; rfl)) da_nil) (hk := by omega)) (de_int) (nomark _)))))) (fun ys m F P h => ?_)
  obtain ⟨is, rfl, hd, hg, h⟩ := h
  refine ⟨rfl, ?_⟩
  rcases List.eq_nil_or_concat is with rfl | ⟨xs, x, rfl⟩
  · exact ⟨_, rfl, false, rfl, h m Mle.refl⟩
  rw [List.concat_eq_append] at *
  have e1 : (xs ++ [x]).map insD = xs.map insD ++ [insD x] := by rw [List.map_append]; rfl
  have hgx : gdI x = true := List.all_eq_true.mp (by rw [← gdL_all]; exact hg) _ (List.mem_append_right _ (List.mem_singleton.mpr rfl))
  have hdx : dpI x ≤ n + 1 := Nat.le_trans (dpL_mem (List.mem_append_right _ (List.mem_singleton.mpr rfl))) hd
  have e2 : mpB (xs ++ [x]) = match x with | .fore b => decide (1 ≤ tL b) | _ => true := by
    unfold mpB
    rw [List.getLast?_append]
    cases x <;> rfl
  rw [e2] at h
  have hne : (!((xs ++ [x]).map insD).isEmpty) = true := by rw [e1]; simp
  refine ⟨_, rfl, (!((xs ++ [x]).map insD).isEmpty), rfl, ?_⟩
  rw [hne]
  refine ⟨_, rfl, 1, rfl, -1, ((xs ++ [x]).map insD).map Y.d, .d (insD x), rfl, rfl, by rw [e1, List.map_append]; exact at_last, ?_⟩
  have hop : ∀ (wd : Str) (tl : List PyData) (hw : decide (wd = "forever") = false) (hi : insD x = .tuple (.str wd :: tl)) (ht : mpB (xs ++ [x]) = true), False → True := fun _ _ _ _ _ _ => trivial
  clear hop
  cases x with
  | op wd ns =>
    refine ⟨0, _, .d (.str wd), rfl, rfl, at_zero, ?_⟩
    have hw : decide (wd = "forever") = false := decide_eq_false (op_nf ((Bool.and_eq_true _ _).mp hgx).1)
    exact ⟨_, rfl, iteI (by rw [hw]; rfl) (h m Mle.refl)⟩
  | rep k b =>
    rw [insD_rep]
    refine ⟨0, _, .d (.str "repeat"), rfl, rfl, at_zero, ?_⟩
    exact ⟨_, rfl, iteI (by rw [ne_fv.1]; rfl) (h m Mle.refl)⟩
  | fore b =>
    have hdb : dpL b ≤ n := Nat.le_of_succ_le_succ hdx
    rw [insD_fore] at *
    refine ⟨0, _, .d (.str "forever"), rfl, rfl, at_zero, ?_⟩
    refine ⟨_, rfl, iteE (by rw [ne_fv.2]; rfl) ?_⟩
    refine ⟨_, rfl, 1, rfl, -1, ((xs ++ [Ins.fore b]).map insD).map Y.d, .d (insD (.fore b)), rfl, rfl, by rw [e1, List.map_append, insD_fore]; exact at_last, ?_⟩
    rw [insD_fore]
    refine ⟨1, _, .d (scrD b), rfl, rfl, at_nat (n := 1) rfl, b, rfl, hdb, ?_, fun m1 h1 => ?_⟩
    · exact hgx
    · exact h m1 h1
abbrev s_meets_conditions : Stmt := top 28
abbrev N_meets_conditions : List Str := ["model", "resources", "script"]
theorem sc_meets_conditions : FnScope N_meets_conditions ["model"] (defScope s_meets_conditions) := ⟨rfl, rfl, rfl, by decide +kernel, rfl, by decide +kernel, by decide +kernel⟩
def meF (M : Mod) : Bool := M.scr.all fun s => balB M.res.length s && mpB s
def d_meets_conditions (n : Nat) : DSp := fun ys m F _ => ∃ M, ys = [.d (modD M)] ∧ M.scr.length ≤ 1000 ∧ M.res.length ≤ 1000 ∧ (∀ s ∈ M.scr, dpL s ≤ n ∧ gdL s = true) ∧ ∀ m', Mle m m' → F (.d (.bool (meF M))) m'
theorem ok_meets_conditions {f : Addr} {fd : FuncData} (F : Fun K "meets_conditions" "meets_conditions" s_meets_conditions f fd) (T : Txt K mg) {n a : Nat} {f1 f2 : Addr} {fd1 fd2 : FuncData} (G_is_balanced : GF P w K mg base "_is_balanced" (a+1) f1 fd1 ["script", "resources"] (d_is_balanced (n+1))) (G_makes_progress : GF P w K mg base "_makes_progress" (a+1) f2 fd2 ["script"] (d_makes_progress n)) : FnD P w K mg base (a+2) f fd ["model"] (d_meets_conditions (n+1)) := by
  refine Dl.Fun.dok F sc_meets_conditions _ (fun cdv A outer s H E B hp =>
      (dss_cons (ds_set (i := 1) sc_meets_conditions.nd rfl (by first | exact Or.inl rfl | exact Or.inr rfl) (de_cb cd_len rfl T.b_len boot_len (da_cons (de_ix (de_var (pv 0)) (de_int) (by intro _ _; rfl)) da_nil)))
      (dss_one (ds_ret (de_cb (cd_all rfl) rfl T.b_all boot_all (da_cons (de_lc (fin := finD) finD_ok rfl sc_meets_conditions.nd (di_seq (de_ix (de_var (pv 0)) (de_int) (by intro _ _; rfl))) (blkOk_by (own := [("script", 2)]) (N := N_meets_conditions) (sc := defScope s_meets_conditions) (by decide +kernel)) (fun _ _ _ _ _ => pg_name (i := 2) sc_meets_conditions.nd rfl (by first | exact Or.inl rfl | exact Or.inr rfl)) (dgw_name (i := 2) (by decide)) (fun _ _ _ _ _ => dts_nil) (fun _ _ _ _ _ => de_and (de_gf G_is_balanced B.hr B.gd takes0 rfl (da_cons (de_var (pv 2)) (da_cons (de_var (pv 1)) da_nil)) (hk := by omega)) (de_one (de_gf G_makes_progress B.hr B.gd takes0 rfl (da_cons (de_var (pv 2)) da_nil) (hk := by omega))))) da_nil)))))) (fun ys m F P h => ?_)
  obtain ⟨M, rfl, hs, hr, hg, h⟩ := h
  refine ⟨rfl, ?_⟩
  refine ⟨_, rfl, 0, [.d (.tuple (M.res.map resD)), .d (.tuple (M.sto.map stoD)), .d (.tuple (M.gat.map PyData.str)), .d (.tuple (M.scr.map scrD))], .d (.tuple (M.res.map resD)), rfl, rfl, at_zero, ?_⟩
  refine ⟨_, (M.res.map resD).map Y.d, rfl, .inr rfl, ?_⟩
  rw [List.length_map, List.length_map]
  refine ⟨_, rfl, 3, [.d (.tuple (M.res.map resD)), .d (.tuple (M.sto.map stoD)), .d (.tuple (M.gat.map PyData.str)), .d (.tuple (M.scr.map scrD))], .d (.tuple (M.scr.map scrD)), rfl, rfl, at_nat (n := 3) rfl, (M.scr.map scrD).map Y.d, rfl, ?_⟩
  refine lc_typed scrD (fun s => .bool (balB M.res.length s && mpB s)) (by omega) (fun p e => by cases e) (fun s M1 hsm hM C' N' hC => ?_) fun m1 h1 => ?_
  · obtain ⟨g1, g2⟩ := hg s hsm
    refine iteT ⟨_, rfl, _, rfl, s, M.res.length, rfl, g1, g2, hr, fun m2 h2 => ⟨_, rfl, ?_⟩⟩
    exact iteB (fun c => ⟨_, rfl, s, rfl, g1, g2, fun m3 h3 => by rw [c, Bool.true_and] at hC; exact hC _ (h2.trans h3)⟩) (fun c => by rw [c, Bool.false_and] at hC; exact hC _ h2)
  · refine ⟨_, M.scr.map fun s => balB M.res.length s && mpB s, rfl, by rw [show (M.scr.map fun s => balB M.res.length s && mpB s).map PyData.bool = M.scr.map fun s => PyData.bool (balB M.res.length s && mpB s) from List.map_map], ?_⟩
    rw [all_bools]
    exact h m1 h1
abbrev s_is_model : Stmt := top 25
abbrev N_is_model : List Str := ["thing"]
theorem sc_is_model : FnScope N_is_model ["thing"] (defScope s_is_model) := ⟨rfl, rfl, rfl, by decide +kernel, rfl, by decide +kernel, by decide +kernel⟩
/-- is it a model -/
def isM (M : Mod) : Bool := okM M && meF M
def d_is_model : DSp := fun ys m F _ => ∃ M, ys = [.d (modD M)] ∧ SmM M ∧ ∀ m', Mle m m' → F (.d (.bool (isM M))) m'
mutual
theorem okI_dp {L : Lims} : ∀ (i : Ins) {j : Int}, okI L j i = true → (dpI i : Int) + j ≤ 4 ∨ dpI i = 0
  | .op _ _, _, _ => .inr rfl
  | .rep k b, j, h => by
    unfold okI at h
    obtain ⟨h1, h2⟩ := (Bool.and_eq_true _ _).mp h
    obtain ⟨_, h3⟩ := (Bool.and_eq_true _ _).mp h2
    obtain ⟨_, h4⟩ := (Bool.and_eq_true _ _).mp h3
    have h1 := of_decide_eq_true h1
    have := okIs_dp b h4
    left
    show ((dpL b + 1 : Nat) : Int) + j ≤ 4
    omega
  | .fore b, j, h => by unfold okI at h; cases h
theorem okIs_dp {L : Lims} : ∀ (is : List Ins) {j : Int}, okIs L j is = true → (dpL is : Int) + j ≤ 4 ∨ dpL is = 0
  | [], _, _ => .inr rfl
  | i :: is, j, h => by
    unfold okIs at h
    obtain ⟨h1, h2⟩ := (Bool.and_eq_true _ _).mp h
    have a1 := okI_dp i h1
    have a2 := okIs_dp is h2
    have e : dpL (i :: is) = max (dpI i) (dpL is) := rfl
    rw [e]
    omega
end
theorem kinds_ne {w : Str} {ks : List Str} (e : kindsL.lookup w = some ks) : ks ≠ [] := by
  have c : kindsL.all (fun q => !q.2.isEmpty) = true := by decide +kernel
  have := List.all_eq_true.mp c _ (look_mem e)
  intro z
  subst z
  cases this
theorem okOp_gd {L : Lims} {w : Str} {ns : List Int} (h : okOp L w ns = true) : gdI (.op w ns) = true := by
  unfold okOp at h
  unfold gdI
  cases e : kindsL.lookup w with
  | none => rw [e] at h; cases h
  | some ks =>
    rw [e] at h
    obtain ⟨h1, _⟩ := (Bool.and_eq_true _ _).mp h
    have h1 := of_decide_eq_true h1
    have hk : ks ≠ [] := kinds_ne e
    cases ns with
    | nil => exact absurd (List.length_eq_zero_iff.mp h1.symm) hk
    | cons v t => rfl
mutual
theorem okI_gd {L : Lims} : ∀ (i : Ins) {j : Int}, okI L j i = true → gdI i = true
  | .op w ns, j, h => okOp_gd (by unfold okI at h; exact h)
  | .rep k b, j, h => by
    unfold okI at h
    obtain ⟨h1, h2⟩ := (Bool.and_eq_true _ _).mp h
    obtain ⟨h5, h3⟩ := (Bool.and_eq_true _ _).mp h2
    obtain ⟨_, h4⟩ := (Bool.and_eq_true _ _).mp h3
    unfold gdI
    rw [okIs_gd b h4, Bool.and_true]
    exact h5
  | .fore b, j, h => by unfold okI at h; cases h
theorem okIs_gd {L : Lims} : ∀ (is : List Ins) {j : Int}, okIs L j is = true → gdL is = true
  | [], _, _ => rfl
  | i :: is, j, h => by
    unfold okIs at h
    obtain ⟨h1, h2⟩ := (Bool.and_eq_true _ _).mp h
    unfold gdL
    rw [okI_gd i h1, okIs_gd is h2]
    rfl
end
theorem dpL_app (xs : List Ins) (x : Ins) : dpL (xs ++ [x]) = max (dpL xs) (dpI x) := by
  induction xs with
  | nil => show max (dpI x) 0 = max 0 (dpI x); omega
  | cons y ys ih =>
    show max (dpI y) (dpL (ys ++ [x])) = max (max (dpI y) (dpL ys)) (dpI x)
    rw [ih]; omega
theorem okScr_ok {L : Lims} {is : List Ins} (h : okScr L is = true) : dpL is ≤ 3 ∧ gdL is = true := by
  rcases List.eq_nil_or_concat is with rfl | ⟨xs, x, rfl⟩
  · exact ⟨Nat.zero_le _, rfl⟩
  rw [List.concat_eq_append] at *
  unfold okScr at h
  rw [List.getLast?_append] at h
  simp only [List.getLast?_singleton, Option.some_or] at h
  split at h
  · rename_i hf
    rw [List.dropLast_concat, ← okIs_all] at h
    have a1 := okIs_dp xs h
    have a2 := okIs_gd xs h
    cases x with
    | fore b =>
      unfold isFore at hf
      obtain ⟨_, hb⟩ := (Bool.and_eq_true _ _).mp hf
      rw [← okIs_all] at hb
      have b1 := okIs_dp b hb
      have b2 := okIs_gd b hb
      refine ⟨?_, ?_⟩
      · rw [dpL_app]
        have e : dpI (.fore b) = dpL b + 1 := rfl
        omega
      · rw [gdL_all, List.all_append, ← gdL_all, a2]
        simp only [List.all_cons, List.all_nil, Bool.and_true, Bool.true_and]
        exact b2
    | op _ _ => cases hf
    | rep _ _ => cases hf
  · rw [← okIs_all] at h
    have a1 := okIs_dp _ h
    exact ⟨by omega, okIs_gd _ h⟩
theorem okM_scr {M : Mod} (h : okM M = true) : ∀ s ∈ M.scr, dpL s ≤ 3 ∧ gdL s = true := by
  unfold okM at h
  simp only [Bool.and_eq_true] at h
  intro s hs
  exact okScr_ok (List.all_eq_true.mp h.2.2.2.2.2.2.2 s hs)
theorem ok_is_model {f : Addr} {fd : FuncData} (F : Fun K "is_model" "is_model" s_is_model f fd) (T : Txt K mg) {a : Nat} {f1 f2 : Addr} {fd1 fd2 : FuncData} (G_has_parts : GF P w K mg base "has_parts" (a+6) f1 fd1 ["thing"] d_has_parts) (G_meets_conditions : GF P w K mg base "meets_conditions" (a+6) f2 fd2 ["model"] (d_meets_conditions 3)) : FnD P w K mg base (a+7) f fd ["thing"] d_is_model := by
  refine Dl.Fun.dok F sc_is_model _ (fun cdv A outer s H E B hp =>
      (dss_one (ds_ret (de_and (de_gf G_has_parts B.hr B.gd B.tk rfl (da_cons (de_var (pv 0)) da_nil) (hk := by omega)) (de_one (de_gf G_meets_conditions B.hr B.gd B.tk rfl (da_cons (de_var (pv 0)) da_nil) (hk := by omega))))))) (fun ys m F P h => ?_)
  obtain ⟨M, rfl, hM, h⟩ := h
  refine ⟨rfl, _, rfl, M, rfl, hM, fun m1 h1 => ⟨_, rfl, ?_⟩⟩
  refine iteB (fun c => ?_) (fun c => ?_)
  · refine ⟨_, rfl, M, rfl, hM.c, hM.r, okM_scr c, fun m2 h2 => ?_⟩
    have e : isM M = meF M := by unfold isM; rw [c, Bool.true_and]
    rw [e] at h
    exact h _ (h1.trans h2)
  · have e : isM M = false := by unfold isM; rw [c, Bool.false_and]
    rw [e] at h
    exact h _ h1
abbrev s_check_model : Stmt := top 26
abbrev N_check_model : List Str := ["model"]
theorem sc_check_model : FnScope N_check_model ["model"] (defScope s_check_model) := ⟨rfl, rfl, rfl, by decide +kernel, rfl, by decide +kernel, by decide +kernel⟩
def d_check_model : DSp := fun ys m F _ => ∃ M, ys = [.d (modD M)] ∧ SmM M ∧ isM M = true ∧ ∀ m', Mle m m' → F (.d .none) m'
theorem ok_check_model {f : Addr} {fd : FuncData} (F : Fun K "check_model" "check_model" s_check_model f fd) (T : Txt K mg) {a : Nat} {f1 : Addr} {fd1 : FuncData} (G_is_model : GF P w K mg base "is_model" a f1 fd1 ["thing"] d_is_model) : FnD P w K mg base (a+1) f fd ["model"] d_check_model := by
  refine Dl.Fun.dok F sc_check_model _ (fun cdv A outer s H E B hp =>
      (dss_one (ds_if (dt_not (dt_tru (de_gf G_is_model B.hr B.gd B.tk rfl (da_cons (de_var (pv 0)) da_nil) (hk := by omega))))
      (dss_one (ds_never))
      dss_nil))) (fun ys m F P h => ?_)
  obtain ⟨M, rfl, hs, hm, h⟩ := h
  refine ⟨rfl, _, rfl, M, rfl, hs, fun m1 h1 => ?_⟩
  exact ⟨_, rfl, iteE (by rw [hm]; rfl) (h m1 h1)⟩
abbrev s_join_parts : Stmt := top 46
abbrev N_join_parts : List Str := ["parts", "part"]
theorem sc_join_parts : FnScope N_join_parts ["parts"] (defScope s_join_parts) := ⟨rfl, rfl, rfl, by decide +kernel, rfl, by decide +kernel, by decide +kernel⟩
/-! ### texts of models -/
def cpOk (x : Str) : Prop := ∀ c : Nat, c ∈ x.cps.toList → c < 16 ^ 8
instance (x : Str) : Decidable (cpOk x) := inferInstanceAs (Decidable (∀ c ∈ x.cps.toList, c < 16 ^ 8))
/-- a text of at most n letters -/
structure TxOk (n : Nat) (x : Str) : Prop where
  len : x.length ≤ n
  cp : cpOk x
theorem TxOk.mono {n k : Nat} {x : Str} (h : TxOk n x) (l : n ≤ k) : TxOk k x := ⟨Nat.le_trans h.len l, h.cp⟩
/-- how a part of a line is written -/
def partT : PyData → Str
  | .int i => (toString i : String)
  | .str s => s
  | _ => ""
def PtOk (d : PyData) : Prop := (∃ i : Int, d = .int i ∧ 0 ≤ i ∧ i ≤ 1000) ∨ ∃ a : Str, d = .str a ∧ TxOk 10 a
abbrev lineT (ds : List PyData) : Str := Txt.join " " (ds.map partT)
theorem num_tx {i : Int} (h0 : 0 ≤ i) (h1 : i ≤ 1000) : TxOk 4 (toString i : String) := by
  have c1 : ∀ n : Nat, n < 1001 → (Str.ofString (toString (n : Int))).length ≤ 4 := by decide +kernel
  have c2 : ∀ n : Nat, n < 1001 → cpOk (Str.ofString (toString (n : Int))) := by decide +kernel
  obtain ⟨n, rfl⟩ := Int.eq_ofNat_of_zero_le h0
  exact ⟨c1 n (by omega), c2 n (by omega)⟩
theorem PtOk.tx {d : PyData} (h : PtOk d) : TxOk 10 (partT d) := by
  rcases h with ⟨i, rfl, h0, h1⟩ | ⟨a, rfl, h⟩
  · exact (num_tx h0 h1).mono (by decide)
  · exact h
theorem log_sm {i : Int} (h0 : 0 ≤ i) (h1 : i ≤ 1000) : i.natAbs.log2 < 1920 := by
  have : i.natAbs.log2 ≤ i.natAbs := Nat.log2_le_self _
  omega
theorem foldl_cps (g : Array Nat) : ∀ (xs : List Str) (z : Array Nat), (List.foldl (fun acc p => acc ++ g ++ p.cps) z xs).toList = z.toList ++ (xs.flatMap fun x : Str => g.toList ++ x.cps.toList)
  | [], z => by simp
  | x :: xs, z => by
    rw [List.foldl_cons, foldl_cps g xs]
    simp
theorem join_cps (a : Str) (x : Str) (xs : List Str) : (Txt.join a (x :: xs)).cps.toList = x.cps.toList ++ (xs.flatMap fun y : Str => a.cps.toList ++ y.cps.toList) := by
  show (List.foldl (fun acc p => acc ++ a.cps ++ p.cps) x.cps xs).toList = _
  exact foldl_cps _ _ _
theorem flat_len_le {α β : Type} (f : α → List β) {k : Nat} : ∀ {xs : List α}, (∀ x ∈ xs, (f x).length ≤ k) → (xs.flatMap f).length ≤ xs.length * k
  | [], _ => by simp
  | x :: xs, h => by
    have a := h x (List.mem_cons_self ..)
    have b := flat_len_le f (k := k) (xs := xs) fun y hy => h y (List.mem_cons_of_mem _ hy)
    rw [List.flatMap_cons, List.length_append, List.length_cons, Nat.succ_mul]
    omega
theorem tx_join {a : Str} {k n j : Nat} (ha : TxOk k a) {xs : List Str} (h : ∀ x ∈ xs, TxOk n x) (l : xs.length ≤ j) : TxOk (j * (k + n)) (Txt.join a xs) := by
  cases xs with
  | nil => exact ⟨Nat.zero_le _, fun c hc => by cases hc⟩
  | cons x xs =>
    have hx := h x (List.mem_cons_self ..)
    have e := join_cps a x xs
    refine ⟨?_, fun c hc => ?_⟩
    · have e2 : (Txt.join a (x :: xs)).length = (x.cps.toList ++ (xs.flatMap fun y : Str => a.cps.toList ++ y.cps.toList)).length := by rw [← e]; rfl
      rw [e2, List.length_append]
      have h1 : x.cps.toList.length ≤ n := hx.len
      have h2 : (xs.flatMap fun y : Str => a.cps.toList ++ y.cps.toList).length ≤ xs.length * (k + n) := flat_len_le _ fun y hy => by
        rw [List.length_append]
        have := (h y (List.mem_cons_of_mem _ hy)).len
        have h3 : a.cps.toList.length ≤ k := ha.len
        have h4 : y.cps.toList.length ≤ n := this
        omega
      have h3 : (xs.length + 1) * (k + n) ≤ j * (k + n) := Nat.mul_le_mul_right _ l
      rw [Nat.succ_mul] at h3
      omega
    · rw [e] at hc
      rcases List.mem_append.mp hc with hc | hc
      · exact hx.cp c hc
      · obtain ⟨y, hy, hc⟩ := List.mem_flatMap.mp hc
        rcases List.mem_append.mp hc with hc | hc
        · exact ha.cp c hc
        · exact (h y (List.mem_cons_of_mem _ hy)).cp c hc
theorem sum_le {α : Type} (f : α → Nat) {k : Nat} : ∀ {xs : List α}, (∀ x ∈ xs, f x ≤ k) → (xs.map f).sum ≤ xs.length * k
  | [], _ => by simp
  | x :: xs, h => by
    have a := h x (List.mem_cons_self ..)
    have b := sum_le f (k := k) (xs := xs) fun y hy => h y (List.mem_cons_of_mem _ hy)
    rw [List.map_cons, List.sum_cons, List.length_cons, Nat.succ_mul]
    omega
theorem join_room {a : Str} {k n j : Nat} (ha : a.length ≤ k) {xs : List Str} (h : ∀ x ∈ xs, TxOk n x) (l : xs.length ≤ j) (hj : j * (k + n) ≤ 16777216) : (xs.map (·.length)).sum + xs.length * a.length ≤ 16777216 := by
  have h1 := sum_le (fun x : Str => x.length) (k := n) fun x hx => (h x hx).len
  have h2 : xs.length * a.length ≤ xs.length * k := Nat.mul_le_mul_left _ ha
  have h3 : xs.length * (k + n) ≤ j * (k + n) := Nat.mul_le_mul_right _ l
  rw [Nat.mul_add] at h3
  omega
theorem sp_tx : TxOk 1 " " := ⟨by decide +kernel, by decide +kernel⟩
theorem nl_tx : TxOk 1 "\n" := ⟨by decide +kernel, by decide +kernel⟩
theorem line_tx {ds : List PyData} (h : ∀ d ∈ ds, PtOk d) (l : ds.length ≤ 10) : TxOk 110 (lineT ds) := (tx_join sp_tx (n := 10) (j := 10) (fun x hx => by
  obtain ⟨d, hd, rfl⟩ := List.mem_map.mp hx
  exact (h d hd).tx) (by rw [List.length_map]; exact l)).mono (by decide)
def d_join_parts : DSp := fun ys m F _ => ∃ ds, ys = [.d (.tuple ds)] ∧ (∀ d ∈ ds, PtOk d) ∧ ds.length ≤ 10 ∧ ∀ m', Mle m m' → F (.d (.str (lineT ds))) m'
theorem ok_join_parts {f : Addr} {fd : FuncData} (F : Fun K "join_parts" "join_parts" s_join_parts f fd) (T : Txt K mg) {a : Nat} : FnD P w K mg base 1 f fd ["parts"] d_join_parts := by
  refine Dl.Fun.dok F sc_join_parts _ (fun cdv A outer s H E B hp =>
      (dss_one (ds_ret (de_bm md_join PySem.F.plainAttrs_str PySem.F.slot_str_join PySem.F.type_str_join (de_str) (da_cons (de_lc (fin := finD) finD_ok rfl sc_join_parts.nd (di_seq (de_var (pv 0))) (blkOk_by (own := [("part", 1)]) (N := N_join_parts) (sc := defScope s_join_parts) (by decide +kernel)) (fun _ _ _ _ _ => pg_name (i := 1) sc_join_parts.nd rfl (by first | exact Or.inl rfl | exact Or.inr rfl)) (dgw_name (i := 1) (by decide)) (fun _ _ _ _ _ => dts_nil) (fun _ _ _ _ _ => de_cty cd_strU rfl T.b_str boot_str (da_cons (de_var (pv 1)) da_nil))) da_nil))))) (fun ys m F P h => ?_)
  obtain ⟨ds, rfl, hd, hl, h⟩ := h
  refine ⟨rfl, rfl, _, rfl, (ds.map id).map Y.d, by rw [List.map_id], ?_⟩
  refine lc_typed id (fun d => .str (partT d)) (by omega) (fun p e => by cases e) (fun d M hdm hM C' N' hC => ?_) (fun m1 h1 => ?_)
  · refine iteT ⟨_, rfl, ?_⟩
    rcases hd d hdm with ⟨i, rfl, h0, h1⟩ | ⟨a, rfl, h⟩
    · exact .inl ⟨i, rfl, log_sm h0 h1, hC _ Mle.refl⟩
    · exact .inr ⟨a, rfl, hC _ Mle.refl⟩
  refine ⟨_, _, ds.map partT, rfl, rfl, by show List.map _ (List.map partT ds) = List.map Y.d (List.map _ ds); rw [List.map_map, List.map_map]; rfl, ?_, h m1 h1⟩
  exact join_room (k := 1) (n := 10) (j := 10) (by decide +kernel) (fun x hx => by
    obtain ⟨d, hd2, rfl⟩ := List.mem_map.mp hx
    exact (hd d hd2).tx) (by rw [List.length_map]; exact hl) (by decide)
abbrev s_script_lines : Stmt := top 49
abbrev N_script_lines : List Str := ["script", "lines", "instruction"]
theorem sc_script_lines : FnScope N_script_lines ["script"] (defScope s_script_lines) := ⟨rfl, rfl, rfl, by decide +kernel, rfl, by decide +kernel, by decide +kernel⟩
mutual
/-- can be written: known words, numbers up to 1000 -/
def wrI : Ins → Bool
  | .op w ns => (kindsL.lookup w).isSome && (decide (ns.length ≤ 5) && ns.all fun v => decide (0 ≤ v) && decide (v ≤ 1000))
  | .rep k b => (decide (0 ≤ k) && decide (k ≤ 1000)) && wrIs b
  | .fore b => wrIs b
def wrIs : List Ins → Bool
  | [] => true
  | i :: is => wrI i && wrIs is
end
theorem wrIs_all : ∀ is : List Ins, wrIs is = is.all wrI
  | [] => rfl
  | i :: is => by rw [wrIs, wrIs_all is]; rfl
mutual
/-- how many lines -/
def lnI : Ins → Nat
  | .op _ _ => 1
  | .rep _ b => lnL b + 2
  | .fore b => lnL b + 2
def lnL : List Ins → Nat
  | [] => 0
  | i :: is => lnI i + lnL is
end
mutual
/-- the lines -/
def lnT : Ins → List Str
  | .op w ns => [lineT (.str w :: ns.map PyData.int)]
  | .rep k b => lineT [.str "repeat", .int k] :: (lnsT b ++ [("end" : Str)])
  | .fore b => lineT [.str "forever"] :: (lnsT b ++ [("end" : Str)])
def lnsT : List Ins → List Str
  | [] => []
  | i :: is => lnT i ++ lnsT is
end
theorem lnsT_app (xs ys : List Ins) : lnsT (xs ++ ys) = lnsT xs ++ lnsT ys := by
  induction xs with
  | nil => rfl
  | cons x xs ih => show lnT x ++ lnsT (xs ++ ys) = (lnT x ++ lnsT xs) ++ lnsT ys; rw [ih, List.append_assoc]
theorem lnL_app (xs ys : List Ins) : lnL (xs ++ ys) = lnL xs + lnL ys := by
  induction xs with
  | nil => show _ = 0 + _; rw [Nat.zero_add]; rfl
  | cons x xs ih => show lnI x + lnL (xs ++ ys) = (lnI x + lnL xs) + lnL ys; rw [ih, Nat.add_assoc]
mutual
theorem lnT_len : ∀ i : Ins, (lnT i).length = lnI i
  | .op _ _ => rfl
  | .rep _ b => by show (_ :: (lnsT b ++ _)).length = lnL b + 2; rw [List.length_cons, List.length_append, lnsT_len b]; rfl
  | .fore b => by show (_ :: (lnsT b ++ _)).length = lnL b + 2; rw [List.length_cons, List.length_append, lnsT_len b]; rfl
theorem lnsT_len : ∀ is : List Ins, (lnsT is).length = lnL is
  | [] => rfl
  | i :: is => by show (lnT i ++ lnsT is).length = lnI i + lnL is; rw [List.length_append, lnT_len i, lnsT_len is]
end
theorem lnI_pos : ∀ i : Ins, 1 ≤ lnI i
  | .op _ _ => Nat.le_refl _
  | .rep _ b => by show 1 ≤ lnL b + 2; omega
  | .fore b => by show 1 ≤ lnL b + 2; omega
theorem len_lnL : ∀ is : List Ins, is.length ≤ lnL is
  | [] => Nat.le_refl _
  | i :: is => by
    have a := lnI_pos i
    have b := len_lnL is
    show is.length + 1 ≤ lnI i + lnL is
    omega
theorem lnL_mem : ∀ {is : List Ins} {i : Ins}, i ∈ is → lnI i ≤ lnL is
  | x :: is, i, h => by
    show _ ≤ lnI x + lnL is
    rcases List.mem_cons.mp h with rfl | h
    · omega
    · have := lnL_mem h; omega
theorem lnL_take : ∀ (is : List Ins) (j : Nat), lnL (is.take j) ≤ lnL is
  | [], j => by rw [List.take_nil]; exact Nat.le_refl _
  | x :: is, 0 => Nat.zero_le _
  | x :: is, j + 1 => by have := lnL_take is j; show lnI x + lnL (is.take j) ≤ lnI x + lnL is; omega
theorem kind_tx {w : Str} (h : (kindsL.lookup w).isSome = true) : TxOk 10 w := by
  obtain ⟨ks, e⟩ := Option.isSome_iff_exists.mp h
  have c : kindsL.all (fun q => decide (q.1.length ≤ 10) && decide (cpOk q.1)) = true := by decide +kernel
  have := (Bool.and_eq_true _ _).mp (List.all_eq_true.mp c _ (look_mem e))
  exact ⟨of_decide_eq_true this.1, of_decide_eq_true this.2⟩
theorem wr_op {w : Str} {ns : List Int} (h : wrI (.op w ns) = true) : (kindsL.lookup w).isSome = true ∧ (∀ d ∈ PyData.str w :: ns.map PyData.int, PtOk d) ∧ (PyData.str w :: ns.map PyData.int).length ≤ 10 := by
  unfold wrI at h
  obtain ⟨h1, h2⟩ := (Bool.and_eq_true _ _).mp h
  obtain ⟨h3, h4⟩ := (Bool.and_eq_true _ _).mp h2
  have h3 := of_decide_eq_true h3
  refine ⟨h1, fun d hd => ?_, by rw [List.length_cons, List.length_map]; omega⟩
  rcases List.mem_cons.mp hd with rfl | hd
  · exact .inr ⟨w, rfl, kind_tx h1⟩
  · obtain ⟨v, hv, rfl⟩ := List.mem_map.mp hd
    obtain ⟨a, b⟩ := (Bool.and_eq_true _ _).mp (List.all_eq_true.mp h4 v hv)
    exact .inl ⟨v, rfl, of_decide_eq_true a, of_decide_eq_true b⟩
theorem rp_tx : TxOk 10 "repeat" := ⟨by decide +kernel, by decide +kernel⟩
theorem fv_tx : TxOk 10 "forever" := ⟨by decide +kernel, by decide +kernel⟩
theorem en_tx : TxOk 110 "end" := ⟨by decide +kernel, by decide +kernel⟩
theorem wr_rep {k : Int} {b : List Ins} (h : wrI (.rep k b) = true) : (∀ d ∈ [PyData.str "repeat", .int k], PtOk d) ∧ wrIs b = true := by
  unfold wrI at h
  obtain ⟨h1, h2⟩ := (Bool.and_eq_true _ _).mp h
  obtain ⟨a, b⟩ := (Bool.and_eq_true _ _).mp h1
  refine ⟨fun d hd => ?_, h2⟩
  simp only [List.mem_cons, List.not_mem_nil, or_false] at hd
  rcases hd with rfl | rfl
  · exact .inr ⟨_, rfl, rp_tx⟩
  · exact .inl ⟨k, rfl, of_decide_eq_true a, of_decide_eq_true b⟩
theorem wr_fore : ∀ d ∈ [PyData.str "forever"], PtOk d := fun d hd => by rw [List.mem_singleton.mp hd]; exact .inr ⟨_, rfl, fv_tx⟩
mutual
theorem lnT_tx : ∀ i : Ins, wrI i = true → ∀ x ∈ lnT i, TxOk 110 x
  | .op w ns, h, x, hx => by
    obtain ⟨_, a, b⟩ := wr_op h
    rw [List.mem_singleton.mp hx]
    exact line_tx a b
  | .rep k b, h, x, hx => by
    obtain ⟨a, c⟩ := wr_rep h
    rcases List.mem_cons.mp hx with rfl | hx
    · exact line_tx a (by show 2 ≤ 10; decide)
    · rcases List.mem_append.mp hx with hx | hx
      · exact lnsT_tx b c x hx
      · rw [List.mem_singleton.mp hx]; exact en_tx
  | .fore b, h, x, hx => by
    rcases List.mem_cons.mp hx with rfl | hx
    · exact line_tx wr_fore (by decide)
    · rcases List.mem_append.mp hx with hx | hx
      · exact lnsT_tx b h x hx
      · rw [List.mem_singleton.mp hx]; exact en_tx
theorem lnsT_tx : ∀ is : List Ins, wrIs is = true → ∀ x ∈ lnsT is, TxOk 110 x
  | [], _, x, hx => by cases hx
  | i :: is, h, x, hx => by
    unfold wrIs at h
    obtain ⟨h1, h2⟩ := (Bool.and_eq_true _ _).mp h
    rcases List.mem_append.mp hx with hx | hx
    · exact lnT_tx i h1 x hx
    · exact lnsT_tx is h2 x hx
end
abbrev lnY (xs : List Str) : List Y := xs.map fun x : Str => Y.d (.str x)
theorem mle_wr {m M : Mu} {p : Addr} {o : MO} (h : Mle m M) (hp : m p = none) : Mle m (mu M p o) := fun x w e => by
  have : x ≠ p := fun z => by rw [z, hp] at e; cases e
  rw [mu_ne this]
  exact h x w e
theorem mle_at {m m1 : Mu} {q : Addr} {o : MO} (hm : Mle m m1) (hq : m1 q = some o) : Mle (mu m q o) m1 := fun x w e => by
  by_cases hx : x = q
  · rw [hx, mu_same] at e
    rw [hx, hq]; exact e
  · rw [mu_ne hx] at e
    exact hm x w e
theorem lnsT_step {is : List Ins} {i : Nat} (h : i < is.length) : lnsT (is.take (i + 1)) = lnsT (is.take i) ++ lnT is[i] := by
  rw [List.take_succ_eq_append_getElem h, lnsT_app]
  show _ ++ (lnT is[i] ++ []) = _
  rw [List.append_nil]
theorem lnY_app (xs ys : List Str) : lnY (xs ++ ys) = lnY xs ++ lnY ys := List.map_append
theorem lnY_len (xs : List Str) : (lnY xs).length = xs.length := List.length_map _
theorem cut_rep (k : Int) (b : List Ins) : cutD [PyData.str "repeat", .int k, scrD b] none (some (-1)) = [.str "repeat", .int k] := cut_last [PyData.str "repeat", .int k] (scrD b)
theorem cut_fore (b : List Ins) : cutD [PyData.str "forever", scrD b] none (some (-1)) = [.str "forever"] := cut_last [PyData.str "forever"] (scrD b)
def d_script_lines (n : Nat) : DSp := fun ys m F _ => ∃ is, ys = [.d (scrD is)] ∧ wrIs is = true ∧ lnL is ≤ 1000 ∧ dpL is ≤ n ∧ ∀ p m', m p = none → Mle (mu m p (.lst (lnY (lnsT is)))) m' → F (.l p) m'
def d_script_linesP (n : Nat) : DSp := fun ys m F P => ∃ k, n = k + 1 ∧ d_script_lines k ys m F P
theorem ok_script_lines {f : Addr} {fd : FuncData} (F : Fun K "_script_lines" "_script_lines" s_script_lines f fd) (T : Txt K mg) {n a : Nat} {aK f1 f2 : Addr} {fd1 fd2 : FuncData} {es : Array DictEntry} {nK : Nat} (D_KINDS : KDict K w aK es nK) (KF : KinF K w aK) (k_KINDS : mg "KINDS" = some (.ref aK)) (ha : 1 ≤ a) (G_join_parts : GF P w K mg base "join_parts" 1 f1 fd1 ["parts"] d_join_parts) (G_script_lines : GF P w K mg base "_script_lines" a f2 fd2 ["script"] (d_script_linesP n)) : FnD P w K mg base (a+1) f fd ["script"] (d_script_lines n) := by
  refine Dl.Fun.dok F sc_script_lines _ (fun cdv A outer s H E B hp =>
      (dss_cons (ds_set (i := 1) sc_script_lines.nd rfl (by first | exact Or.inl rfl | exact Or.inr rfl) (de_lstM da_nil))
      (dss_cons (ds_for hp rfl (di_seq (de_var (pv 0))) (dg_name (i := 2) sc_script_lines.nd rfl (by first | exact Or.inl rfl | exact Or.inr rfl))
      (dss_one (ds_if (dt_cmp (kinK D_KINDS) (de_ix (de_var (pv 2)) (de_int) (by intro _ _; rfl)) (de_gr rfl k_KINDS) (by rfl))
      (dss_one (ds_expr (de_bm md_append PySem.F.plainAttrs_list PySem.F.slot_list_append PySem.F.type_list_append (de_var (pv 1)) (da_cons (de_gf G_join_parts B.hr B.gd B.tk rfl (da_cons (de_var (pv 2)) da_nil) (hk := by omega)) da_nil))))
      (dss_cons (ds_expr (de_bm md_append PySem.F.plainAttrs_list PySem.F.slot_list_append PySem.F.type_list_append (de_var (pv 1)) (da_cons (de_gf G_join_parts B.hr B.gd B.tk rfl (da_cons (de_sl sld_T (de_var (pv 2)) do_none (do_some (de_neg (de_int)))) da_nil) (hk := by omega)) da_nil)))
      (dss_cons (ds_expr (de_bm md_extendL PySem.F.plainAttrs_list PySem.F.slot_list_extend PySem.F.type_list_extend (de_var (pv 1)) (da_cons (de_gf G_script_lines B.hr B.gd B.tk rfl (da_cons (de_ix (de_var (pv 2)) (de_neg (de_int)) (by intro _ _; rfl)) da_nil) (hk := by omega)) da_nil)))
      (dss_one (ds_expr (de_bm md_append PySem.F.plainAttrs_list PySem.F.slot_list_append PySem.F.type_list_append (de_var (pv 1)) (da_cons (de_str) da_nil)))))))))
      (dss_one (ds_ret (de_var (pv 1))))))) (fun ys m F P h => ?_)
  obtain ⟨is, rfl, hw, hn, hd, h⟩ := h
  refine ⟨rfl, len0, fun q0 hq0 => ?_⟩
  refine ⟨_, rfl, (is.map insD).map Y.d, rfl, ?_⟩
  refine ⟨fun i rs m' => ∃ q o3, rs = [some (.d (scrD is)), some (.l q), o3] ∧ m q = none ∧ Mle m m' ∧ m' q = some (.lst (lnY (lnsT (is.take i)))), ⟨q0, _, rfl, hq0, Mle.new hq0, mu_same⟩, ?_⟩
  rintro i _ m1 hi ⟨q, o3, rfl, hq, hm1, hq1⟩
  refine ⟨fun _ e => (nomatch e), fun hlt => ?_, fun he => ?_⟩
  case refine_2 =>
    have he' : i = ((is.map insD).map Y.d).length := he
    rw [List.length_map, List.length_map] at he'
    rw [he', List.take_length] at hq1
    exact ⟨_, rfl, h q m1 hq (mle_at hm1 hq1)⟩
  have hlt' : i < is.length := by
    have h2 : i < ((is.map insD).map Y.d).length := hlt
    rwa [List.length_map, List.length_map] at h2
  have e1 : is[i]? = some is[i] := List.getElem?_eq_getElem hlt'
  have hmem := List.getElem_mem hlt'
  have hwi : wrI is[i] = true := List.all_eq_true.mp (by rw [← wrIs_all]; exact hw) _ hmem
  have hdi : dpI is[i] ≤ n := Nat.le_trans (dpL_mem hmem) hd
  have hni : lnI is[i] ≤ 1000 := Nat.le_trans (lnL_mem hmem) hn
  have etk := lnsT_step hlt'
  have btk : (lnsT (is.take i)).length ≤ 1000 := by rw [lnsT_len]; exact Nat.le_trans (lnL_take is i) hn
  refine ⟨.d (insD is[i]), by rw [List.getElem?_map, List.getElem?_map, e1]; rfl, ?_⟩
  generalize is[i] = ii at hwi hdi hni etk
  cases ii with
  | op x ns =>
    obtain ⟨w1, w2, w3⟩ := wr_op hwi
    obtain ⟨ks, hk⟩ := Option.isSome_iff_exists.mp w1
    obtain ⟨p, g1, g2, g3⟩ := KF.get hk
    refine ⟨_, rfl, 0, _, .d (.str x), rfl, rfl, at_zero, x, _, rfl, rfl, g1, _, rfl, iteI rfl ?_⟩
    refine ⟨_, rfl, .inl ⟨rfl, _, hq1⟩, _, rfl, _, rfl, w2, w3, fun m2 hm2 => ?_⟩
    have hq2 := hm2 _ _ hq1
    refine ⟨q, _, _, rfl, rfl, hq2, by rw [lnY_len]; omega, ?_⟩
    refine ⟨q, _, rfl, hq, mle_wr (hm1.trans hm2) hq, ?_⟩
    rw [mu_same, etk, lnY_app]
    rfl
  | rep k b =>
    rw [insD_rep]
    obtain ⟨w1, w2⟩ := wr_rep hwi
    obtain ⟨u, rfl⟩ : ∃ u, n = u + 1 := ⟨n - 1, by have : dpL b + 1 ≤ n := hdi; omega⟩
    have hdb : dpL b ≤ u := Nat.le_of_succ_le_succ hdi
    have lb : lnL b + 2 ≤ 1000 := hni
    refine ⟨_, rfl, 0, _, .d (.str "repeat"), rfl, rfl, at_zero, "repeat", _, rfl, rfl, KF.nr, _, rfl, iteE rfl ?_⟩
    refine ⟨_, rfl, .inl ⟨rfl, _, hq1⟩, _, rfl, 1, rfl, _, rfl, _, rfl, ?_⟩
    rw [cut_rep]
    refine ⟨_, rfl, w1, by show 2 ≤ 10; decide, fun m2 hm2 => ?_⟩
    have hq2 := hm2 _ _ hq1
    refine ⟨q, _, _, rfl, rfl, hq2, by rw [lnY_len]; omega, ?_⟩
    have hN1 : Mle m (mu m2 q (.lst (lnY (lnsT (is.take i)) ++ [Y.d (.str (lineT [PyData.str "repeat", .int k]))]))) := mle_wr (hm1.trans hm2) hq
    refine ⟨_, rfl, .inl ⟨rfl, _, mu_same⟩, _, rfl, 1, rfl, -1, ([PyData.str "repeat", .int k] ++ [scrD b]).map Y.d, .d (scrD b), rfl, rfl, by rw [List.map_append]; exact at_last, u, rfl, b, rfl, w2, by omega, hdb, fun p3 m3 hp3 hm3 => ?_⟩
    have hq3 : q ≠ p3 := fun e => by rw [← e, mu_same] at hp3; cases hp3
    have hq4 := ((Mle.new hp3).trans hm3) _ _ mu_same
    have l1 : (lnsT b).length ≤ 1000 := by rw [lnsT_len]; omega
    refine ⟨q, p3, _, _, rfl, rfl, hq4, hm3 _ _ mu_same, by rw [List.length_append, lnY_len, lnY_len]; simp only [List.length_cons, List.length_nil]; omega, ?_⟩
    refine ⟨_, rfl, .inl ⟨rfl, _, mu_same⟩, q, _, _, rfl, rfl, mu_same, by rw [List.length_append, List.length_append, lnY_len, lnY_len]; simp only [List.length_cons, List.length_nil]; omega, ?_⟩
    refine ⟨q, _, rfl, hq, ?_, ?_⟩
    · rw [mu_mu]
      exact mle_wr ((hN1.trans (Mle.new hp3)).trans hm3) hq
    · rw [mu_same, etk, lnY_app]
      show _ = some (MO.lst (lnY _ ++ lnY (lineT [PyData.str "repeat", .int k] :: (lnsT b ++ [("end" : Str)]))))
      rw [show lineT [PyData.str "repeat", .int k] :: (lnsT b ++ [("end" : Str)]) = [lineT [PyData.str "repeat", .int k]] ++ (lnsT b ++ [("end" : Str)]) from rfl, lnY_app, lnY_app, List.append_assoc, List.append_assoc]
      rfl
  | fore b =>
    rw [insD_fore]
    have w2 : wrIs b = true := hwi
    obtain ⟨u, rfl⟩ : ∃ u, n = u + 1 := ⟨n - 1, by have : dpL b + 1 ≤ n := hdi; omega⟩
    have hdb : dpL b ≤ u := Nat.le_of_succ_le_succ hdi
    have lb : lnL b + 2 ≤ 1000 := hni
    refine ⟨_, rfl, 0, _, .d (.str "forever"), rfl, rfl, at_zero, "forever", _, rfl, rfl, KF.nf, _, rfl, iteE rfl ?_⟩
    refine ⟨_, rfl, .inl ⟨rfl, _, hq1⟩, _, rfl, 1, rfl, _, rfl, _, rfl, ?_⟩
    rw [cut_fore]
    refine ⟨_, rfl, wr_fore, by show 1 ≤ 10; decide, fun m2 hm2 => ?_⟩
    have hq2 := hm2 _ _ hq1
    refine ⟨q, _, _, rfl, rfl, hq2, by rw [lnY_len]; omega, ?_⟩
    have hN1 : Mle m (mu m2 q (.lst (lnY (lnsT (is.take i)) ++ [Y.d (.str (lineT [PyData.str "forever"]))]))) := mle_wr (hm1.trans hm2) hq
    refine ⟨_, rfl, .inl ⟨rfl, _, mu_same⟩, _, rfl, 1, rfl, -1, ([PyData.str "forever"] ++ [scrD b]).map Y.d, .d (scrD b), rfl, rfl, by rw [List.map_append]; exact at_last, u, rfl, b, rfl, w2, by omega, hdb, fun p3 m3 hp3 hm3 => ?_⟩
    have hq3 : q ≠ p3 := fun e => by rw [← e, mu_same] at hp3; cases hp3
    have hq4 := ((Mle.new hp3).trans hm3) _ _ mu_same
    have l1 : (lnsT b).length ≤ 1000 := by rw [lnsT_len]; omega
    refine ⟨q, p3, _, _, rfl, rfl, hq4, hm3 _ _ mu_same, by rw [List.length_append, lnY_len, lnY_len]; simp only [List.length_cons, List.length_nil]; omega, ?_⟩
    refine ⟨_, rfl, .inl ⟨rfl, _, mu_same⟩, q, _, _, rfl, rfl, mu_same, by rw [List.length_append, List.length_append, lnY_len, lnY_len]; simp only [List.length_cons, List.length_nil]; omega, ?_⟩
    refine ⟨q, _, rfl, hq, ?_, ?_⟩
    · rw [mu_mu]
      exact mle_wr ((hN1.trans (Mle.new hp3)).trans hm3) hq
    · rw [mu_same, etk, lnY_app]
      show _ = some (MO.lst (lnY _ ++ lnY (lineT [PyData.str "forever"] :: (lnsT b ++ [("end" : Str)]))))
      rw [show lineT [PyData.str "forever"] :: (lnsT b ++ [("end" : Str)]) = [lineT [PyData.str "forever"]] ++ (lnsT b ++ [("end" : Str)]) from rfl, lnY_app, lnY_app, List.append_assoc, List.append_assoc]
      rfl
abbrev s_format_model : Stmt := top 48
abbrev N_format_model : List Str := ["model", "resources", "stores", "gates", "scripts", "lines", "script", "resource", "capacity", "kept", "word"]
theorem sc_format_model : FnScope N_format_model ["model"] (defScope s_format_model) := ⟨rfl, rfl, rfl, by decide +kernel, rfl, by decide +kernel, by decide +kernel⟩
def resL (q : Str × Int) : Str := lineT [.str "resource", .str q.1, .int q.2]
def stoL (q : Int × List Int) : Str := lineT (.str "store" :: .int q.1 :: q.2.map PyData.int)
def gatL (w : Str) : Str := lineT [.str "gate", .str w]
def scrL (s : List Ins) : List Str := ("process" : Str) :: lnsT s
def scrsT : List (List Ins) → List Str
  | [] => []
  | s :: ss => scrL s ++ scrsT ss
/-- the lines of a model -/
def modL (M : Mod) : List Str := M.res.map resL ++ M.sto.map stoL ++ M.gat.map gatL ++ scrsT M.scr
def modT (M : Mod) : Str := Txt.join "\n" (modL M)
/-- can be written -/
structure WrM (M : Mod) : Prop where
  r : M.res.length ≤ 4 ∧ ∀ q ∈ M.res, q.1 ∈ discL ∧ 0 ≤ q.2 ∧ q.2 ≤ 1000
  s : M.sto.length ≤ 3 ∧ ∀ q ∈ M.sto, 0 ≤ q.1 ∧ q.1 ≤ 1000 ∧ q.2.length ≤ 5 ∧ ∀ v ∈ q.2, 0 ≤ v ∧ v ≤ 1000
  g : M.gat.length ≤ 3 ∧ ∀ q ∈ M.gat, q ∈ gateL
  c : M.scr.length ≤ 6 ∧ ∀ q ∈ M.scr, wrIs q = true ∧ lnL q ≤ 1000 ∧ dpL q ≤ 4
theorem scrsT_app (xs ys : List (List Ins)) : scrsT (xs ++ ys) = scrsT xs ++ scrsT ys := by
  induction xs with
  | nil => rfl
  | cons x xs ih => show scrL x ++ scrsT (xs ++ ys) = (scrL x ++ scrsT xs) ++ scrsT ys; rw [ih, List.append_assoc]
theorem scrsT_step {is : List (List Ins)} {i : Nat} (h : i < is.length) : scrsT (is.take (i + 1)) = scrsT (is.take i) ++ scrL is[i] := by
  rw [List.take_succ_eq_append_getElem h, scrsT_app]
  show _ ++ (scrL is[i] ++ []) = _
  rw [List.append_nil]
theorem scrsT_len : ∀ {ss : List (List Ins)}, (∀ q ∈ ss, lnL q ≤ 1000) → (scrsT ss).length ≤ 1001 * ss.length
  | [], _ => Nat.zero_le _
  | s :: ss, h => by
    have a := h s (List.mem_cons_self ..)
    have b := scrsT_len fun q hq => h q (List.mem_cons_of_mem _ hq)
    show (scrL s ++ scrsT ss).length ≤ 1001 * (ss.length + 1)
    have e : (scrL s).length = lnL s + 1 := by show (_ :: lnsT s).length = _; rw [List.length_cons, lnsT_len]
    rw [List.length_append, e]
    omega
theorem pt_num {i : Int} (h0 : 0 ≤ i) (h1 : i ≤ 1000) : PtOk (.int i) := .inl ⟨i, rfl, h0, h1⟩
theorem pt_disc {w : Str} (h : w ∈ discL) : PtOk (.str w) := by
  have c : discL.all (fun q => decide (q.length ≤ 10) && decide (cpOk q)) = true := by decide +kernel
  have := (Bool.and_eq_true _ _).mp (List.all_eq_true.mp c _ h)
  exact .inr ⟨w, rfl, of_decide_eq_true this.1, of_decide_eq_true this.2⟩
theorem pt_gate {w : Str} (h : w ∈ gateL) : PtOk (.str w) := by
  have c : gateL.all (fun q => decide (q.length ≤ 10) && decide (cpOk q)) = true := by decide +kernel
  have := (Bool.and_eq_true _ _).mp (List.all_eq_true.mp c _ h)
  exact .inr ⟨w, rfl, of_decide_eq_true this.1, of_decide_eq_true this.2⟩
theorem pt_resource : PtOk (.str "resource") := .inr ⟨_, rfl, by decide +kernel, by decide +kernel⟩
theorem pt_store : PtOk (.str "store") := .inr ⟨_, rfl, by decide +kernel, by decide +kernel⟩
theorem pt_gateW : PtOk (.str "gate") := .inr ⟨_, rfl, by decide +kernel, by decide +kernel⟩
theorem all_cons {α : Type} {p : α → Prop} {x : α} {xs : List α} (h : p x) (t : ∀ y ∈ xs, p y) : ∀ y ∈ x :: xs, p y := fun y hy => by
  rcases List.mem_cons.mp hy with rfl | hy
  · exact h
  · exact t y hy
theorem all_nil {α : Type} {p : α → Prop} : ∀ y ∈ ([] : List α), p y := fun y hy => by cases hy
theorem WrM.rp {M : Mod} (h : WrM M) {q : Str × Int} (hq : q ∈ M.res) : ∀ d ∈ [PyData.str "resource", .str q.1, .int q.2], PtOk d :=
  have a := h.r.2 q hq
  all_cons pt_resource (all_cons (pt_disc a.1) (all_cons (pt_num a.2.1 a.2.2) all_nil))
theorem WrM.sp {M : Mod} (h : WrM M) {q : Int × List Int} (hq : q ∈ M.sto) : ∀ d ∈ PyData.str "store" :: .int q.1 :: q.2.map PyData.int, PtOk d :=
  have a := h.s.2 q hq
  all_cons pt_store (all_cons (pt_num a.1 a.2.1) fun d hd => by
    obtain ⟨v, hv, rfl⟩ := List.mem_map.mp hd
    exact pt_num (a.2.2.2 v hv).1 (a.2.2.2 v hv).2)
theorem WrM.gp {M : Mod} (h : WrM M) {q : Str} (hq : q ∈ M.gat) : ∀ d ∈ [PyData.str "gate", .str q], PtOk d :=
  all_cons pt_gateW (all_cons (pt_gate (h.g.2 q hq)) all_nil)
theorem WrM.ln {M : Mod} (h : WrM M) : (modL M).length ≤ 6100 := by
  have a := h.r.1
  have b := h.s.1
  have c := h.g.1
  have d := scrsT_len fun q hq => (h.c.2 q hq).2.1
  have e := h.c.1
  unfold modL
  rw [List.length_append, List.length_append, List.length_append, List.length_map, List.length_map, List.length_map]
  omega
theorem pr_tx : TxOk 110 "process" := ⟨by decide +kernel, by decide +kernel⟩
theorem WrM.tx {M : Mod} (h : WrM M) : ∀ x ∈ modL M, TxOk 110 x := fun x hx => by
  unfold modL at hx
  rcases List.mem_append.mp hx with hx | hx
  · rcases List.mem_append.mp hx with hx | hx
    · rcases List.mem_append.mp hx with hx | hx
      · obtain ⟨q, hq, rfl⟩ := List.mem_map.mp hx
        exact line_tx (h.rp hq) (by show 3 ≤ 10; decide)
      · obtain ⟨q, hq, rfl⟩ := List.mem_map.mp hx
        exact line_tx (h.sp hq) (by have := (h.s.2 q hq).2.2.1; simp only [List.length_cons, List.length_map]; omega)
    · obtain ⟨q, hq, rfl⟩ := List.mem_map.mp hx
      exact line_tx (h.gp hq) (by show 2 ≤ 10; decide)
  · have c := h.c.2
    generalize M.scr = ss at hx c
    induction ss with
    | nil => cases hx
    | cons s ss ih =>
      rcases List.mem_append.mp hx with hx | hx
      · rcases List.mem_cons.mp hx with rfl | hx
        · exact pr_tx
        · exact lnsT_tx s (c s (List.mem_cons_self ..)).1 x hx
      · exact ih hx fun q hq => c q (List.mem_cons_of_mem _ hq)
theorem mkT_l {ys : List Y} {ds : List PyData} {m : Mu} {F : Y → Mu → Prop} (e : ys = ds.map Y.d) (h : F (.d (.tuple ds)) m) : mkT ys m F := by
  subst e; unfold mkT; rw [allD_map]; exact h
theorem lnY_map {α : Type} (f : α → Str) (xs : List α) : lnY (xs.map f) = (xs.map fun x => PyData.str (f x)).map Y.d := by
  show List.map _ (List.map f xs) = _
  rw [List.map_map, List.map_map]; rfl
def d_format_model : DSp := fun ys m F _ => ∃ M, ys = [.d (modD M)] ∧ SmM M ∧ isM M = true ∧ WrM M ∧ ∀ m', Mle m m' → F (.d (.str (modT M))) m'
theorem ok_format_model {f : Addr} {fd : FuncData} (F : Fun K "format_model" "format_model" s_format_model f fd) (T : Txt K mg) {a : Nat} {f1 f2 f3 : Addr} {fd1 fd2 fd3 : FuncData} (ha : 1 ≤ a) (G_check_model : GF P w K mg base "check_model" a f1 fd1 ["model"] d_check_model) (G_join_parts : GF P w K mg base "join_parts" 1 f2 fd2 ["parts"] d_join_parts) (G_script_lines : GF P w K mg base "_script_lines" a f3 fd3 ["script"] (d_script_lines 4)) : FnD P w K mg base (a+1) f fd ["model"] d_format_model := by
  refine Dl.Fun.dok F sc_format_model _ (fun cdv A outer s H E B hp =>
      (dss_cons (ds_expr (de_gf G_check_model B.hr B.gd B.tk rfl (da_cons (de_var (pv 0)) da_nil) (hk := by omega)))
      (dss_cons (ds_asg (de_var (pv 0)) (dg_tup (n := 4) rfl (dgs_cons (dg_name (i := 1) sc_format_model.nd rfl (by first | exact Or.inl rfl | exact Or.inr rfl)) (dgs_cons (dg_name (i := 2) sc_format_model.nd rfl (by first | exact Or.inl rfl | exact Or.inr rfl)) (dgs_cons (dg_name (i := 3) sc_format_model.nd rfl (by first | exact Or.inl rfl | exact Or.inr rfl)) (dgs_cons (dg_name (i := 4) sc_format_model.nd rfl (by first | exact Or.inl rfl | exact Or.inr rfl)) dgs_nil))))))
      (dss_cons (ds_setLc (i := 5) (fin := finM) finM_ok rfl sc_format_model.nd rfl rfl (sw_true rfl rfl rfl (by decide +kernel)) (di_seq (de_var (pv 1))) (blkOk_by (own := [("resource", 7)]) (N := N_format_model) (sc := defScope s_format_model) (by decide +kernel)) (fun _ _ _ _ _ => pg_name (i := 7) sc_format_model.nd rfl (by first | exact Or.inl rfl | exact Or.inr rfl)) (dgw_name (i := 7) (by decide)) (fun _ _ _ _ _ => dts_nil) (fun _ _ _ _ _ => de_gf G_join_parts B.hr B.gd takes0 rfl (da_cons (de_tup (da_cons (de_str) (da_star (de_var (pv 7)) da_nil))) da_nil) (hk := by omega)))
      (dss_cons (ds_expr (de_bm md_extendL PySem.F.plainAttrs_list PySem.F.slot_list_extend PySem.F.type_list_extend (de_var (pv 5)) (da_cons (de_lc (fin := finM) finM_ok rfl sc_format_model.nd (di_seq (de_var (pv 2))) (blkOk_by (own := [("capacity", 8), ("kept", 9)]) (N := N_format_model) (sc := defScope s_format_model) (by decide +kernel)) (fun _ _ _ _ _ => pg_tup (n := 2) rfl (pgs_cons (pg_name (i := 8) sc_format_model.nd rfl (by first | exact Or.inl rfl | exact Or.inr rfl)) (pgs_cons (pg_name (i := 9) sc_format_model.nd rfl (by first | exact Or.inl rfl | exact Or.inr rfl)) pgs_nil))) (dgw_tup (n := 2) (dgw_cons (dgw_name (i := 8) (by decide)) (dgw_cons (dgw_name (i := 9) (by decide)) dgw_nil))) (fun _ _ _ _ _ => dts_nil) (fun _ _ _ _ _ => de_gf G_join_parts B.hr B.gd takes0 rfl (da_cons (de_tup (da_cons (de_str) (da_cons (de_var (pv 8)) (da_star (de_var (pv 9)) da_nil)))) da_nil) (hk := by omega))) da_nil)))
      (dss_cons (ds_expr (de_bm md_extendL PySem.F.plainAttrs_list PySem.F.slot_list_extend PySem.F.type_list_extend (de_var (pv 5)) (da_cons (de_lc (fin := finM) finM_ok rfl sc_format_model.nd (di_seq (de_var (pv 3))) (blkOk_by (own := [("word", 10)]) (N := N_format_model) (sc := defScope s_format_model) (by decide +kernel)) (fun _ _ _ _ _ => pg_name (i := 10) sc_format_model.nd rfl (by first | exact Or.inl rfl | exact Or.inr rfl)) (dgw_name (i := 10) (by decide)) (fun _ _ _ _ _ => dts_nil) (fun _ _ _ _ _ => de_gf G_join_parts B.hr B.gd takes0 rfl (da_cons (de_tup (da_cons (de_str) (da_cons (de_var (pv 10)) da_nil))) da_nil) (hk := by omega))) da_nil)))
      (dss_cons (ds_for hp rfl (di_seq (de_var (pv 4))) (dg_name (i := 6) sc_format_model.nd rfl (by first | exact Or.inl rfl | exact Or.inr rfl))
      (dss_cons (ds_expr (de_bm md_append PySem.F.plainAttrs_list PySem.F.slot_list_append PySem.F.type_list_append (de_var (pv 5)) (da_cons (de_str) da_nil)))
      (dss_one (ds_expr (de_bm md_extendL PySem.F.plainAttrs_list PySem.F.slot_list_extend PySem.F.type_list_extend (de_var (pv 5)) (da_cons (de_gf G_script_lines B.hr B.gd B.tk rfl (da_cons (de_var (pv 6)) da_nil) (hk := by omega)) da_nil))))))
      (dss_one (ds_ret (de_bm md_join PySem.F.plainAttrs_str PySem.F.slot_str_join PySem.F.type_str_join (de_str) (da_cons (de_var (pv 5)) da_nil))))))))))) (fun ys m F P h => ?_)
  obtain ⟨M, rfl, hs, hM, hw, h⟩ := h
  refine ⟨rfl, _, rfl, M, rfl, hs, hM, fun m1 hm1 => ?_⟩
  refine ⟨_, rfl, tup4 ⟨_, _, rfl, _, _, rfl, _, _, rfl, _, _, rfl, rfl, ?_⟩⟩
  have l1 := hw.r.1
  have l2 := hw.s.1
  have l3 := hw.g.1
  have l4 := hw.c.1
  refine ⟨_, rfl, (M.res.map resD).map Y.d, rfl, ?_⟩
  refine lc_typedM resD (fun q => .str (resL q)) (by omega) (fun p e => by cases e) (fun q M2 hq hM2 C' N' hC => ?_) (fun q1 m2 hq1 hm2 => ?_)
  · refine iteT ⟨_, rfl, [.d (.str q.1), .d (.int q.2)], rfl, len3 _ _ _, _, rfl, hw.rp hq, by show 3 ≤ 10; decide, fun m' hm' => hC _ hm'⟩
  have hm12 := hm1.trans ((Mle.new hq1).trans hm2)
  have hl1 : m2 q1 = some (.lst (lnY (M.res.map resL))) := by rw [lnY_map]; exact hm2 _ _ mu_same
  refine ⟨_, rfl, .inl ⟨rfl, _, hl1⟩, _, rfl, (M.sto.map stoD).map Y.d, rfl, ?_⟩
  refine lc_typedM stoD (fun q => .str (stoL q)) (by omega) (fun p e => by cases e) (fun q M2 hq hM2 C' N' hC => ?_) (fun q2 m3 hq2 hm3 => ?_)
  · refine tup2 (y := .d (.int q.1)) (z := .d (.tuple (q.2.map PyData.int))) (.inl ⟨_, _, rfl, rfl, rfl⟩) ?_
    refine ⟨_, _, rfl, _, _, rfl, rfl, iteT ⟨_, rfl, _, rfl, (q.2.map PyData.int).map Y.d, rfl, by simp only [List.length_append, List.length_cons, List.length_map, List.length_nil]; have := (hw.s.2 q hq).2.2.1; omega, mkT_l (ds := .str "store" :: .int q.1 :: q.2.map PyData.int) (by simp) ⟨_, rfl, hw.sp hq, by have := (hw.s.2 q hq).2.2.1; simp only [List.length_cons, List.length_map]; omega, fun m' hm' => hC _ hm'⟩⟩⟩
  have hl2 : m3 q1 = some (.lst (lnY (M.res.map resL))) := ((Mle.new hq2).trans hm3) _ _ hl1
  refine ⟨q1, q2, _, _, rfl, rfl, hl2, hm3 _ _ mu_same, by rw [lnY_len, List.length_map, List.length_map, List.length_map]; omega, ?_⟩
  rw [← lnY_map, ← lnY_app]
  have hn1 : m1 q1 = none := hq1
  have hmA : Mle m1 (mu m3 q1 (.lst (lnY (M.res.map resL ++ M.sto.map stoL)))) := mle_wr (((Mle.new hq1).trans hm2).trans ((Mle.new hq2).trans hm3)) hq1
  refine ⟨_, rfl, .inl ⟨rfl, _, mu_same⟩, _, rfl, (M.gat.map PyData.str).map Y.d, rfl, ?_⟩
  refine lc_typedM PyData.str (fun q => .str (gatL q)) (by omega) (fun p e => by cases e) (fun q M2 hq hM2 C' N' hC => ?_) (fun q3 m4 hq3 hm4 => ?_)
  · exact iteT ⟨_, rfl, len2 _ _, _, rfl, hw.gp hq, by show 2 ≤ 10; decide, fun m' hm' => hC _ hm'⟩
  have hl3 : m4 q1 = some (.lst (lnY (M.res.map resL ++ M.sto.map stoL))) := ((Mle.new hq3).trans hm4) _ _ mu_same
  refine ⟨q1, q3, _, _, rfl, rfl, hl3, hm4 _ _ mu_same, by rw [lnY_len, List.length_append, List.length_map, List.length_map, List.length_map, List.length_map]; omega, ?_⟩
  rw [← lnY_map, ← lnY_app]
  have hmB : Mle m1 (mu m4 q1 (.lst (lnY (M.res.map resL ++ M.sto.map stoL ++ M.gat.map gatL)))) := mle_wr (hmA.trans ((Mle.new hq3).trans hm4)) hq1
  generalize hX : M.res.map resL ++ M.sto.map stoL ++ M.gat.map gatL = X at hmB
  have hXl : X.length ≤ 10 := by rw [← hX, List.length_append, List.length_append, List.length_map, List.length_map, List.length_map]; omega
  refine ⟨_, rfl, (M.scr.map scrD).map Y.d, rfl, ?_⟩
  refine ⟨fun i rs m' => ∃ o6 o7 o8 o9 o10, rs = [some (.d (modD M)), some (.d (.tuple (M.res.map resD))), some (.d (.tuple (M.sto.map stoD))), some (.d (.tuple (M.gat.map PyData.str))), some (.d (.tuple (M.scr.map scrD))), some (.l q1), o6, o7, o8, o9, o10] ∧ Mle m1 m' ∧ m' q1 = some (.lst (lnY (X ++ scrsT (M.scr.take i)))), ⟨_, _, _, _, _, rfl, hmB, by rw [mu_same, List.take_zero]; show _ = some (MO.lst (lnY (X ++ []))); rw [List.append_nil]⟩, ?_⟩
  rintro i _ m5 hi ⟨o6, o7, o8, o9, o10, rfl, hm5, hl5⟩
  refine ⟨fun _ e => (nomatch e), fun hlt => ?_, fun he => ?_⟩
  case refine_2 =>
    have he' : i = ((M.scr.map scrD).map Y.d).length := he
    rw [List.length_map, List.length_map] at he'
    rw [he', List.take_length] at hl5
    have eX : X ++ scrsT M.scr = modL M := by rw [← hX]; rfl
    rw [eX] at hl5
    refine ⟨rfl, _, rfl, _, _, modL M, rfl, rfl, .inl hl5, ?_, h m5 (hm1.trans hm5)⟩
    exact join_room (k := 1) (n := 110) (j := 6100) (by decide +kernel) hw.tx hw.ln (by decide)
  have hlt' : i < M.scr.length := by
    have h2 : i < ((M.scr.map scrD).map Y.d).length := hlt
    rwa [List.length_map, List.length_map] at h2
  have e1 : M.scr[i]? = some M.scr[i] := List.getElem?_eq_getElem hlt'
  obtain ⟨c1, c2, c3⟩ := hw.c.2 _ (List.getElem_mem hlt')
  have etk := scrsT_step hlt'
  have btk : (scrsT (M.scr.take i)).length ≤ 6006 := by
    have a := scrsT_len (ss := M.scr.take i) fun q hq => (hw.c.2 q (List.mem_of_mem_take hq)).2.1
    have b : (M.scr.take i).length ≤ 6 := by rw [List.length_take]; omega
    omega
  refine ⟨.d (scrD M.scr[i]), by rw [List.getElem?_map, List.getElem?_map, e1]; rfl, ?_⟩
  generalize M.scr[i] = s at c1 c2 c3 etk
  refine ⟨_, rfl, .inl ⟨rfl, _, hl5⟩, q1, _, _, rfl, rfl, hl5, by rw [lnY_len, List.length_append]; omega, ?_⟩
  refine ⟨_, rfl, .inl ⟨rfl, _, mu_same⟩, _, rfl, s, rfl, c1, c2, c3, fun p3 m6 hp3 hm6 => ?_⟩
  have hl6 := ((Mle.new hp3).trans hm6) _ _ mu_same
  have lS : (lnsT s).length ≤ 1000 := by rw [lnsT_len]; exact c2
  refine ⟨q1, p3, _, _, rfl, rfl, hl6, hm6 _ _ mu_same, by rw [List.length_append, lnY_len, lnY_len, List.length_append]; simp only [List.length_cons, List.length_nil]; omega, ?_⟩
  refine ⟨_, _, _, _, _, rfl, mle_wr ((mle_wr hm5 hn1).trans ((Mle.new hp3).trans hm6)) hn1, ?_⟩
  rw [mu_same, etk]
  show _ = some (MO.lst (lnY (X ++ (scrsT _ ++ ([("process" : Str)] ++ lnsT s)))))
  rw [lnY_app, lnY_app, lnY_app, lnY_app, List.append_assoc, List.append_assoc]
  rfl
abbrev s_law_cell_at : Stmt := top 51
abbrev N_law_cell_at : List Str := ["_law_script_here", "_law_k"]
theorem sc_law_cell_at : FnScope N_law_cell_at ["_law_script_here", "_law_k"] (defScope s_law_cell_at) := ⟨rfl, rfl, rfl, by decide +kernel, rfl, by decide +kernel, by decide +kernel⟩
def d_law_cell_at : DSp := fun ys m F _ => ∃ (ns : List Int) (k : Nat), ys = [.r (ns.map PyData.int), .d (.int k)] ∧ ∀ x, F (.d (.int x)) m
theorem ok_law_cell_at {f : Addr} {fd : FuncData} (F : Fun K "_law_cell_at" "_law_cell_at" s_law_cell_at f fd) (T : Txt K mg)  : FnD P w K mg base 1 f fd ["_law_script_here", "_law_k"] d_law_cell_at := by
  refine Dl.Fun.dok F sc_law_cell_at _ (fun cdv A outer s H E B hp =>
      (dss_cons (ds_if (dt_cmp opd_lt (de_var (pv 1)) (de_cb cd_len rfl T.b_len boot_len (da_cons (de_var (pv 0)) da_nil)) (nomark _))
      (dss_one (ds_ret (de_ix (de_var (pv 0)) (de_var (pv 1)) (by intro _ _; rfl))))
      dss_nil)
      (dss_one (ds_ret (de_int))))) (fun ys m F P h => ?_)
  obtain ⟨ns, k, rfl, h⟩ := h
  refine ⟨rfl, _, rfl, _, rfl, _, (ns.map PyData.int).map Y.d, rfl, .inr rfl, ?_⟩
  rw [List.length_map, List.length_map]
  refine ⟨_, rfl, iteD (fun hk => ?_) (fun _ => h 0)⟩
  have hk' : k < ns.length := by omega
  exact ⟨_, rfl, _, rfl, (k : Nat), _, .d (.int ns[k]), rfl, rfl, at_nat (by rw [List.getElem?_map, List.getElem?_map, List.getElem?_eq_getElem hk']; rfl), h _⟩
abbrev s_law_pen : Stmt := top 52
abbrev N_law_pen : List Str := ["_law_cell"]
theorem sc_law_pen : FnScope N_law_pen ["_law_cell"] (defScope s_law_pen) := ⟨rfl, rfl, rfl, by decide +kernel, rfl, by decide +kernel, by decide +kernel⟩
def d_law_pen : DSp := fun ys m F _ => ∃ c, ys = [.d (.int c)] ∧ ∀ p l m', m p = none → PenL l → Mle (mu m p (.lst l)) m' → F (.l p) m'
theorem ok_law_pen {f : Addr} {fd : FuncData} (F : Fun K "_law_pen" "_law_pen" s_law_pen f fd) (T : Txt K mg)  : FnD P w K mg base 1 f fd ["_law_cell"] d_law_pen := by
  refine Dl.Fun.dok F sc_law_pen _ (fun cdv A outer s H E B hp =>
      (dss_one (ds_ret (de_lstM (da_cons (de_cb (cd_max2 rfl) rfl T.b_max boot_max (da_cons (de_int) (da_cons (de_op opd_sub (de_var (pv 0)) (de_op opd_pow (de_int) (de_int))) da_nil))) (da_cons (de_op opd_add (de_op opd_mod (de_var (pv 0)) (de_int)) (de_int)) (da_cons (de_int) da_nil))))))) (fun ys m F P h => ?_)
  obtain ⟨c, rfl, h⟩ := h
  refine ⟨rfl, _, rfl, ⟨by decide, by decide, by decide⟩, _, _, rfl, _, rfl, (by decide : (0 : Int) < 2147483629), len3 _ _ _, fun p hp => h p _ _ hp ⟨_, _, _, ?_, ?_, ?_, rfl⟩ Mle.refl⟩
  · split <;> omega
  · have := Int.emod_nonneg c (show (2147483629 : Int) ≠ 0 by decide)
    omega
  · have := Int.emod_lt_of_pos c (show (0 : Int) < 2147483629 by decide)
    omega
abbrev s_law_draw : Stmt := top 53
abbrev N_law_draw : List Str := ["_law_pen_here", "_law_many", "_law_found", "_law_stirred"]
theorem sc_law_draw : FnScope N_law_draw ["_law_pen_here", "_law_many"] (defScope s_law_draw) := ⟨rfl, rfl, rfl, by decide +kernel, rfl, by decide +kernel, by decide +kernel⟩
def d_law_draw : DSp := fun ys m F _ => ∃ p many l, ys = [.l p, .d (.int many)] ∧ 0 < many ∧ many ≤ 1000 ∧ PenL l ∧ m p = some (.lst l) ∧ ∀ x l' m', 0 ≤ x → x < many → PenL l' → Mle (mu m p (.lst l')) m' → F (.d (.int x)) m'
theorem ok_law_draw {f : Addr} {fd : FuncData} (F : Fun K "_law_draw" "_law_draw" s_law_draw f fd) (T : Txt K mg)  : FnD P w K mg base 1 f fd ["_law_pen_here", "_law_many"] d_law_draw := by
  refine Dl.Fun.dok F sc_law_draw _ (fun cdv A outer s H E B hp =>
      (dss_cons (ds_if (dt_cmp opd_gt (de_ix (de_var (pv 0)) (de_int) (by intro _ _; rfl)) (de_int) (nomark _))
      (dss_cons (ds_set (i := 2) sc_law_draw.nd rfl (by first | exact Or.inl rfl | exact Or.inr rfl) (de_op opd_mod (de_ix (de_var (pv 0)) (de_int) (by intro _ _; rfl)) (de_var (pv 1))))
      (dss_cons (ds_asg (de_op opd_fdiv (de_ix (de_var (pv 0)) (de_int) (by intro _ _; rfl)) (de_var (pv 1))) (dg_sub (W := W0) (de_var (pv 0)) (de_int)))
      (dss_one (ds_ret (de_var (pv 2))))))
      dss_nil)
      (dss_cons (ds_asg (de_op opd_add (de_ix (de_var (pv 0)) (de_int) (by intro _ _; rfl)) (de_int)) (dg_sub (W := W0) (de_var (pv 0)) (de_int)))
      (dss_cons (ds_asg (de_op opd_mod (de_op opd_add (de_op opd_add (de_op opd_mul (de_ix (de_var (pv 0)) (de_int) (by intro _ _; rfl)) (de_int)) (de_op opd_mul (de_int) (de_ix (de_var (pv 0)) (de_int) (by intro _ _; rfl)))) (de_int)) (de_int)) (dg_sub (W := W0) (de_var (pv 0)) (de_int)))
      (dss_cons (ds_set (i := 3) sc_law_draw.nd rfl (by first | exact Or.inl rfl | exact Or.inr rfl) (de_op opd_mod (de_op opd_add (de_op opd_add (de_op opd_mul (de_ix (de_var (pv 0)) (de_int) (by intro _ _; rfl)) (de_ix (de_var (pv 0)) (de_int) (by intro _ _; rfl))) (de_op opd_mul (de_int) (de_ix (de_var (pv 0)) (de_int) (by intro _ _; rfl)))) (de_int)) (de_int)))
      (dss_one (ds_ret (de_op opd_mod (de_op opd_fdiv (de_op opd_mod (de_op opd_mul (de_var (pv 3)) (de_int)) (de_int)) (de_int)) (de_var (pv 1)))))))))) (fun ys m F P h => ?_)
  obtain ⟨p, many, _, rfl, h0, h1, ⟨x, y, z, hx, hy, hy2, rfl⟩, hp, h⟩ := h
  refine ⟨rfl, _, rfl, 0, _, _, rfl, .inl hp, at_zero, _, rfl, iteD (fun hgt => ?_) (fun hle => ?_)⟩
  · refine ⟨_, rfl, 0, _, _, rfl, .inl hp, at_zero, _, rfl, h0, _, rfl, 0, _, _, rfl, .inl hp, at_zero, _, rfl, ⟨h0, by omega⟩, ?_⟩
    refine ⟨_, rfl, p, _, 0, 0, rfl, rfl, hp, ix_nat (n := 0) (Nat.le_of_ble_eq_true rfl), _, rfl, h _ _ _ (Int.emod_nonneg _ (by omega)) (Int.emod_lt_of_pos _ h0) ⟨x / many, y, z, Int.ediv_nonneg hx (by omega), hy, hy2, rfl⟩ Mle.refl⟩
  · refine ⟨_, rfl, 2, _, _, rfl, .inl hp, at_nat (n := 2) rfl, _, rfl, p, _, 2, 2, rfl, rfl, hp, ix_nat (n := 2) (Nat.le_of_ble_eq_true rfl), ?_⟩
    refine ⟨_, rfl, 1, _, _, rfl, .inl mu_same, at_nat (n := 1) rfl, .inr (by decide), _, rfl, 2, _, _, rfl, .inl mu_same, at_nat (n := 2) rfl, .inl (by decide), (by decide : (0 : Int) < 2147483647), ?_⟩
    refine ⟨_, rfl, p, _, 1, 1, rfl, rfl, mu_same, ix_nat (n := 1) (Nat.le_of_ble_eq_true rfl), ?_⟩
    have b1 := Int.emod_nonneg (y * 48271 + 1013 * (z + 1) + 11) (show (2147483647 : Int) ≠ 0 by decide)
    have b2 := Int.emod_lt_of_pos (y * 48271 + 1013 * (z + 1) + 11) (show (0 : Int) < 2147483647 by decide)
    rw [mu_mu]
    generalize (y * 48271 + 1013 * (z + 1) + 11) % 2147483647 = y1 at *
    refine ⟨_, rfl, 1, _, _, rfl, .inl mu_same, at_nat (n := 1) rfl, _, rfl, 1, _, _, rfl, .inl mu_same, at_nat (n := 1) rfl, .inl ⟨by omega, by omega⟩, _, rfl, 1, _, _, rfl, .inl mu_same, at_nat (n := 1) rfl, .inl (by decide), (by decide : (0 : Int) < 2147483629), ?_⟩
    have b3 := Int.emod_nonneg (y1 * y1 + 40692 * y1 + 7) (show (2147483629 : Int) ≠ 0 by decide)
    have b4 := Int.emod_lt_of_pos (y1 * y1 + 40692 * y1 + 7) (show (0 : Int) < 2147483629 by decide)
    generalize (y1 * y1 + 40692 * y1 + 7) % 2147483629 = w1 at *
    refine ⟨_, rfl, .inl ⟨by omega, by omega⟩, (by decide : (0 : Int) < 2147483647), ?_⟩
    refine ⟨⟨(by decide : (0 : Int) < 16), (by decide : (16 : Int) < 1073741824)⟩, _, rfl, h0, ?_⟩
    exact h _ _ _ (Int.emod_nonneg _ (by omega)) (Int.emod_lt_of_pos _ h0) ⟨x, y1, z + 1, hx, b1, by omega, rfl⟩ Mle.refl
abbrev s_law_pick : Stmt := top 54
abbrev N_law_pick : List Str := ["_law_pen_here", "_law_things"]
theorem sc_law_pick : FnScope N_law_pick ["_law_pen_here", "_law_things"] (defScope s_law_pick) := ⟨rfl, rfl, rfl, by decide +kernel, rfl, by decide +kernel, by decide +kernel⟩
def d_law_pick : DSp := fun ys m F _ => ∃ p ds l, ys = [.l p, .d (.list ds)] ∧ 0 < ds.length ∧ ds.length ≤ 1000 ∧ PenL l ∧ m p = some (.lst l) ∧ ∀ x l' m', x ∈ ds → PenL l' → Mle (mu m p (.lst l')) m' → F (.d x) m'
theorem ok_law_pick {f : Addr} {fd : FuncData} (F : Fun K "_law_pick" "_law_pick" s_law_pick f fd) (T : Txt K mg) {a : Nat} {f1 : Addr} {fd1 : FuncData} (G_law_draw : GF P w K mg base "_law_draw" 1 f1 fd1 ["_law_pen_here", "_law_many"] d_law_draw) : FnD P w K mg base 2 f fd ["_law_pen_here", "_law_things"] d_law_pick := by
  refine Dl.Fun.dok F sc_law_pick _ (fun cdv A outer s H E B hp =>
      (dss_one (ds_ret (de_ix (de_var (pv 1)) (de_gf G_law_draw B.hr B.gd B.tk rfl (da_cons (de_var (pv 0)) (da_cons (de_cb cd_len rfl T.b_len boot_len (da_cons (de_var (pv 1)) da_nil)) da_nil))) (by intro _ _; rfl))))) (fun ys m F P h => ?_)
  obtain ⟨p, ds, l, rfl, h0, h1, hl, hp, h⟩ := h
  refine ⟨rfl, _, rfl, _, rfl, _, rfl, _, ds.map Y.d, rfl, .inr rfl, ?_⟩
  rw [List.length_map]
  refine ⟨p, ds.length, l, rfl, by omega, by omega, hl, hp, fun x l' m' x0 x1 hl' h' => ?_⟩
  obtain ⟨k, rfl⟩ := Int.eq_ofNat_of_zero_le x0
  have hx : k < ds.length := by omega
  exact ⟨k, _, .d ds[k], rfl, rfl, at_nat (by rw [List.getElem?_map, List.getElem?_eq_getElem hx]; rfl), h _ _ _ (List.getElem_mem hx) hl' h'⟩
abbrev s_law_chunk : Stmt := top 56
abbrev N_law_chunk : List Str := ["_law_pen_here", "_law_counts", "_law_resources", "_law_stores", "_law_gates", "_law_processes", "_law_way", "_law_r", "_law_s", "_law_one", "_law_other", "_law_ends"]
theorem sc_law_chunk : FnScope N_law_chunk ["_law_pen_here", "_law_counts"] (defScope s_law_chunk) := ⟨rfl, rfl, rfl, by decide +kernel, rfl, by decide +kernel, by decide +kernel⟩
def Bal (is : List Ins) : Prop := ∀ r u : Int, 0 ≤ u → uL r is u = u
structure LimOk (L : Lims) : Prop where
  nr : 0 ≤ L.nr ∧ L.nr ≤ 100
  ns : 0 ≤ L.ns ∧ L.ns ≤ 100
  ng : 0 ≤ L.ng ∧ L.ng ≤ 100
  np : 1 ≤ L.np ∧ L.np ≤ 100
def cntD (L : Lims) : List PyData := [.int L.nr, .int L.ns, .int L.ng, .int L.np]
theorem pen_mle {m m1 m2 : Mu} {p : Addr} {l1 l2 : List Y} (h1 : Mle (mu m p (.lst l1)) m1) (h2 : Mle (mu m1 p (.lst l2)) m2) : Mle (mu m p (.lst l2)) m2 := by
  refine Mle.trans ?_ h2
  have := Mle.mu (p := p) (o := .lst l2) h1
  rwa [mu_mu] at this
theorem uT_same {r : Int} {t : List Int} {u : Int} (h : 0 ≤ u) : uI r (.op "take" (r :: t)) u = some (u + 1) := by
  unfold uI
  simp only [show decide (("take" : Str) = "take") = true by decide +kernel, show decide (("take" : Str) = "give") = false by decide +kernel, List.head?_cons, decide_true, Bool.and_self, Bool.false_and, if_true, Bool.false_eq_true, if_false]
  rw [if_neg (by omega)]
theorem uT_other {r r2 : Int} {t : List Int} {u : Int} (hr : r2 ≠ r) (h : 0 ≤ u) : uI r2 (.op "take" (r :: t)) u = some u := by
  unfold uI
  have e : decide ((r :: t).head? = some r2) = false := decide_eq_false (by simp; omega)
  rw [e]
  simp only [Bool.and_false, Bool.false_eq_true, if_false]
  rw [if_neg (by omega)]
theorem uG_same {r : Int} {t : List Int} {u : Int} (h : 1 ≤ u) : uI r (.op "give" (r :: t)) u = some (u - 1) := by
  unfold uI
  simp only [show decide (("give" : Str) = "take") = false by decide +kernel, show decide (("give" : Str) = "give") = true by decide +kernel, List.head?_cons, decide_true, Bool.and_self, Bool.false_and, if_true, Bool.false_eq_true, if_false]
  rw [if_neg (by omega)]
theorem uG_other {r r2 : Int} {t : List Int} {u : Int} (hr : r2 ≠ r) (h : 0 ≤ u) : uI r2 (.op "give" (r :: t)) u = some u := by
  unfold uI
  have e : decide ((r :: t).head? = some r2) = false := decide_eq_false (by simp; omega)
  rw [e]
  simp only [Bool.and_false, Bool.false_eq_true, if_false]
  rw [if_neg (by omega)]
theorem uN {w : Str} {ns : List Int} {r u : Int} (h1 : decide (w = "take") = false) (h2 : decide (w = "give") = false) (h : 0 ≤ u) : uI r (.op w ns) u = some u := by
  unfold uI
  rw [h1, h2]
  simp only [Bool.false_and, Bool.false_eq_true, if_false]
  rw [if_neg (by omega)]
theorem uL_cons {r u u2 : Int} {i : Ins} {is : List Ins} (h : uI r i u = some u2) : uL r (i :: is) u = uL r is u2 := by
  show (match uI r i u with | none => -1 | some u' => uL r is u') = _
  rw [h]
theorem bal_n {w : Str} {ns : List Int} (h1 : decide (w = "take") = false) (h2 : decide (w = "give") = false) : Bal [.op w ns] := fun r u hu => by rw [uL_cons (uN h1 h2 hu)]; rfl
theorem bal_tw {r k t : Int} : Bal [.op "take" [r, k], .op "wait" [t], .op "give" [r]] := fun r2 u hu => by
  have w1 : decide (("wait" : Str) = "take") = false := by decide +kernel
  have w2 : decide (("wait" : Str) = "give") = false := by decide +kernel
  by_cases e : r2 = r
  · subst e
    rw [uL_cons (uT_same hu), uL_cons (uN w1 w2 (by omega)), uL_cons (uG_same (by omega))]
    show u + 1 - 1 = u
    omega
  · rw [uL_cons (uT_other e hu), uL_cons (uN w1 w2 hu), uL_cons (uG_other e hu)]
    rfl
theorem and_ci {f g : Int → Int → Bool} {i i2 : Nat} {j j2 x x2 : Int} {r : Ro} {m : Mu} {F : Bool → Mu → Prop} {P : XP} (h1 : r[i]? = some (some (.d (.int x)))) (h2 : r[i2]? = some (some (.d (.int x2)))) (h : F (f x j && g x2 j2) m) :
    xAnd (xB (xOp (xCi f) (xVar i) (xC (.d (.int j))))) (xB (xOp (xCi g) (xVar i2) (xC (.d (.int j2))))) r m F P := by
  refine ⟨_, h1, _, rfl, iteB (fun c => ?_) (fun c => ?_)⟩
  · rw [show f x j = true from c, Bool.true_and] at h
    exact ⟨_, h2, _, rfl, h⟩
  · rw [show f x j = false from c, Bool.false_and] at h
    exact h
theorem and_eq {g : Int → Int → Bool} {i i2 : Nat} {j j2 x x2 : Int} {r : Ro} {m : Mu} {F : Bool → Mu → Prop} {P : XP} (h1 : r[i]? = some (some (.d (.int x)))) (h2 : r[i2]? = some (some (.d (.int x2)))) (h : F (decide (x = j) && g x2 j2) m) :
    xAnd (xB (xOp xEq (xVar i) (xC (.d (.int j))))) (xB (xOp (xCi g) (xVar i2) (xC (.d (.int j2))))) r m F P := by
  refine ⟨_, h1, _, rfl, iteB (fun c => ?_) (fun c => ?_)⟩
  · rw [c, Bool.true_and] at h
    exact ⟨_, h2, _, rfl, h⟩
  · rw [c, Bool.false_and] at h
    exact h
theorem uL_app {r : Int} : ∀ (xs ys : List Ins) {u : Int}, 0 ≤ uL r xs u → uL r (xs ++ ys) u = uL r ys (uL r xs u)
  | [], _, _, _ => rfl
  | x :: xs, ys, u, h => by
    show (match uI r x u with | none => -1 | some u' => uL r (xs ++ ys) u') = uL r ys (match uI r x u with | none => -1 | some u' => uL r xs u')
    have h' : 0 ≤ (match uI r x u with | none => -1 | some u' => uL r xs u') := h
    cases e : uI r x u with
    | none => rw [e] at h'; cases h'
    | some u2 =>
      rw [e] at h'
      exact uL_app xs ys h'
theorem Bal.app {xs ys : List Ins} (h1 : Bal xs) (h2 : Bal ys) : Bal (xs ++ ys) := fun r u hu => by
  rw [uL_app xs ys (by rw [h1 r u hu]; exact hu), h1 r u hu, h2 r u hu]
theorem tL_app (xs ys : List Ins) : tL (xs ++ ys) = tL xs + tL ys := by
  induction xs with
  | nil => show tL ys = 0 + tL ys; omega
  | cons x xs ih => show tI x + tL (xs ++ ys) = tI x + tL xs + tL ys; omega
theorem bal_rep {k : Int} {b : List Ins} (h : Bal b) : Bal [.rep k b] := fun r u hu => by
  have : uI r (.rep k b) u = some u := by
    show (if uL r b u ≠ u then none else if u < 0 then none else some u) = some u
    rw [if_neg (by rw [h r u hu]; simp), if_neg (by omega)]
  rw [uL_cons this]; rfl
theorem bal_fore {b : List Ins} (h : Bal b) : Bal [.fore b] := fun r u hu => by
  have : uI r (.fore b) u = some u := by
    show (if uL r b u ≠ u then none else if u < 0 then none else some u) = some u
    rw [if_neg (by rw [h r u hu]; simp), if_neg (by omega)]
  rw [uL_cons this]; rfl
theorem scr_plain (L : Lims) {xs : List Ins} (h : okIs L 1 xs = true) (hn : ∀ b, .fore b ∉ xs) : okScr L xs = true ∧ mpB xs = true := by
  unfold okScr mpB
  cases e : xs.getLast? with
  | none => exact ⟨rfl, rfl⟩
  | some x =>
    have hx : x ∈ xs := List.mem_of_getLast? e
    cases x with
    | fore b => exact absurd hx (hn b)
    | op _ _ => exact ⟨by show xs.all _ = true; rw [← okIs_all, h], rfl⟩
    | rep _ _ => exact ⟨by show xs.all _ = true; rw [← okIs_all, h], rfl⟩
theorem scr_fore (L : Lims) {xs b : List Ins} (h : okIs L 1 xs = true) (hb : okIs L 2 b = true) (hne : b ≠ []) (ht : 1 ≤ tL b) : okScr L (xs ++ [.fore b]) = true ∧ mpB (xs ++ [.fore b]) = true := by
  have e1 : (xs ++ [Ins.fore b]).getLast? = some (.fore b) := by rw [List.getLast?_append]; rfl
  unfold okScr mpB
  rw [e1]
  refine ⟨?_, decide_eq_true ht⟩
  have e2 : isFore L (.fore b) = true := by
    show (!b.isEmpty && b.all (okI L 2)) = true
    rw [← okIs_all, hb]
    simp [hne]
  show (if isFore L (.fore b) then (xs ++ [Ins.fore b]).dropLast.all (okI L 1) else _) = true
  rw [if_pos e2, List.dropLast_concat, ← okIs_all, h]
theorem okIs_app (L : Lims) (j : Int) (xs ys : List Ins) : okIs L j (xs ++ ys) = (okIs L j xs && okIs L j ys) := by rw [okIs_all, okIs_all, okIs_all, List.all_append]
/-- what is asked of a script of a model -/
structure ScrV (L : Lims) (is : List Ins) : Prop where
  ok : okScr L is = true
  mp : mpB is = true
  bal : Bal is
theorem smIs_app (xs ys : List Ins) : smIs (xs ++ ys) = (smIs xs && smIs ys) := by rw [smIs_all, smIs_all, smIs_all, List.all_append]
/-- an instruction without a body that may stand in a model and be written -/
def opF (L : Lims) (w : Str) (ns : List Int) : Prop := okOp L w ns = true ∧ ∀ v ∈ ns, v ≤ 1000
theorem opF_1 {L : Lims} {w k : Str} {x hi : Int} (hk : kindsL.lookup w = some [k]) (hl : lastOf L k = .int hi) (h0 : 0 ≤ x) (h1 : x ≤ hi) (h2 : x ≤ 1000) : opF L w [x] := by
  refine ⟨?_, fun v hv => by rw [List.mem_singleton.mp hv]; exact h2⟩
  unfold okOp
  rw [hk]
  simp [isBn, hl, h0, h1]
theorem opF_2 {L : Lims} {w k k2 : Str} {x x2 hi hi2 : Int} (hk : kindsL.lookup w = some [k, k2]) (hl : lastOf L k = .int hi) (hl2 : lastOf L k2 = .int hi2) (h0 : 0 ≤ x) (h1 : x ≤ hi) (h2 : x ≤ 1000) (h3 : 0 ≤ x2) (h4 : x2 ≤ hi2) (h5 : x2 ≤ 1000) : opF L w [x, x2] := by
  refine ⟨?_, fun v hv => ?_⟩
  · unfold okOp
    rw [hk]
    simp [isBn, hl, hl2, h0, h1, h3, h4]
  · simp only [List.mem_cons, List.not_mem_nil, or_false] at hv
    rcases hv with rfl | rfl
    · exact h2
    · exact h5
theorem opF_w {L : Lims} {x : Int} (h0 : 0 ≤ x) (h2 : x ≤ 1000) : opF L "wait" [x] := by
  refine ⟨?_, fun v hv => by rw [List.mem_singleton.mp hv]; exact h2⟩
  unfold okOp
  rw [show kindsL.lookup ("wait" : Str) = some (["time"] : List Str) from rfl]
  have : lastOf L "time" = .none := rfl
  simp [isBn, this, h0]
theorem isBn_nn {v : Int} {hi : PyData} (h : isBn (.int v) 0 hi = true) : 0 ≤ v := by
  unfold isBn at h
  cases hi with
  | int x => exact of_decide_eq_true ((Bool.and_eq_true _ _).mp h).1
  | none => exact of_decide_eq_true h
  | _ => cases h
theorem opF.nn {L : Lims} {w : Str} {ns : List Int} (h : okOp L w ns = true) : ∃ ks, kindsL.lookup w = some ks ∧ ns.length = ks.length ∧ ks.length ≤ 2 ∧ ∀ v ∈ ns, 0 ≤ v := by
  unfold okOp at h
  cases e : kindsL.lookup w with
  | none => rw [e] at h; cases h
  | some ks =>
    rw [e] at h
    obtain ⟨h1, h2⟩ := (Bool.and_eq_true _ _).mp h
    have h1 := of_decide_eq_true h1
    have c : kindsL.all (fun q => decide (q.2.length ≤ 2)) = true := by decide +kernel
    refine ⟨ks, rfl, h1, of_decide_eq_true (List.all_eq_true.mp c _ (look_mem e)), fun v hv => ?_⟩
    obtain ⟨i, hi, rfl⟩ := List.getElem_of_mem hv
    have hz : (ns[i], ks[i]'(by omega)) ∈ ns.zip ks := by
      rw [List.mem_iff_getElem]
      exact ⟨i, by rw [List.length_zip]; omega, by rw [List.getElem_zip]⟩
    exact isBn_nn (List.all_eq_true.mp h2 _ hz)
/-- a piece of a script: instructions that may stand at a depth, and in as many lines -/
structure Pc (L : Lims) (n : Nat) (j : Int) (is : List Ins) : Prop where
  ln : lnL is ≤ n
  ok : okIs L j is = true
  bal : Bal is
  sm : smIs is = true
  wr : wrIs is = true
  t : 0 ≤ tL is
  nf : ∀ b, .fore b ∉ is
theorem Pc.len {L : Lims} {n : Nat} {j : Int} {is : List Ins} (h : Pc L n j is) : is.length ≤ n := Nat.le_trans (len_lnL is) h.ln
theorem Pc.mono {L : Lims} {n k : Nat} {j : Int} {is : List Ins} (h : Pc L n j is) (l : n ≤ k) : Pc L k j is := ⟨Nat.le_trans h.ln l, h.ok, h.bal, h.sm, h.wr, h.t, h.nf⟩
theorem Pc.nil {L : Lims} {j : Int} : Pc L 0 j [] := ⟨Nat.le_refl _, rfl, fun _ _ _ => rfl, rfl, rfl, Int.le_refl _, fun _ h => by cases h⟩
theorem wrIs_app (xs ys : List Ins) : wrIs (xs ++ ys) = (wrIs xs && wrIs ys) := by rw [wrIs_all, wrIs_all, wrIs_all, List.all_append]
theorem Pc.app {L : Lims} {n k : Nat} {j : Int} {xs ys : List Ins} (h1 : Pc L n j xs) (h2 : Pc L k j ys) : Pc L (n + k) j (xs ++ ys) :=
  ⟨by rw [lnL_app]; have := h1.ln; have := h2.ln; omega, by rw [okIs_app, h1.ok, h2.ok]; rfl, h1.bal.app h2.bal, by rw [smIs_app, h1.sm, h2.sm]; rfl, by rw [wrIs_app, h1.wr, h2.wr]; rfl,
    by rw [tL_app]; have := h1.t; have := h2.t; omega, fun b hb => (List.mem_append.mp hb).elim (h1.nf b) (h2.nf b)⟩
theorem opF.sm {L : Lims} {w : Str} {ns : List Int} (h : opF L w ns) : smI (.op w ns) = true := by
  obtain ⟨ks, e, l1, l2, _⟩ := opF.nn h.1
  show ((kindsL.lookup w).isSome && decide (ns.length ≤ 1000)) = true
  rw [e]
  simp
  omega
theorem opF.wr {L : Lims} {w : Str} {ns : List Int} (h : opF L w ns) : wrI (.op w ns) = true := by
  obtain ⟨ks, e, l1, l2, h0⟩ := opF.nn h.1
  show ((kindsL.lookup w).isSome && (decide (ns.length ≤ 5) && ns.all fun v => decide (0 ≤ v) && decide (v ≤ 1000))) = true
  rw [e, decide_eq_true (show ns.length ≤ 5 by omega), Bool.and_eq_true, Bool.and_eq_true, List.all_eq_true]
  exact ⟨rfl, rfl, fun v hv => by rw [decide_eq_true (h0 v hv), decide_eq_true (h.2 v hv)]; rfl⟩
theorem opF.t {L : Lims} {w : Str} {ns : List Int} (h : opF L w ns) : 0 ≤ tI (.op w ns) := by
  obtain ⟨ks, e, l1, l2, h0⟩ := opF.nn h.1
  show 0 ≤ (if decide (w = "wait") = true then ns.head?.getD 0 else 0)
  by_cases c : decide (w = "wait") = true
  · rw [if_pos c]
    cases ns with
    | nil => exact Int.le_refl _
    | cons v t => exact h0 v (List.mem_cons_self ..)
  · rw [if_neg c]
    exact Int.le_refl _
theorem pc_flat {L : Lims} {j : Int} {is : List Ins} (h : ∀ x ∈ is, ∃ w ns, x = .op w ns ∧ opF L w ns) (hb : Bal is) : Pc L is.length j is := by
  refine ⟨?_, ?_, hb, ?_, ?_, ?_, fun b hb => ?_⟩
  · clear hb
    induction is with
    | nil => exact Nat.le_refl _
    | cons x is ih =>
      obtain ⟨w, ns, rfl, _⟩ := h x (List.mem_cons_self ..)
      have := ih fun y hy => h y (List.mem_cons_of_mem _ hy)
      show 1 + lnL is ≤ is.length + 1
      omega
  · rw [okIs_all, List.all_eq_true]
    intro x hx
    obtain ⟨w, ns, rfl, q⟩ := h x hx
    exact q.1
  · rw [smIs_all, List.all_eq_true]
    intro x hx
    obtain ⟨w, ns, rfl, q⟩ := h x hx
    exact q.sm
  · rw [wrIs_all, List.all_eq_true]
    intro x hx
    obtain ⟨w, ns, rfl, q⟩ := h x hx
    exact q.wr
  · clear hb
    induction is with
    | nil => exact Int.le_refl _
    | cons x is ih =>
      obtain ⟨w, ns, rfl, q⟩ := h x (List.mem_cons_self ..)
      have a := ih fun y hy => h y (List.mem_cons_of_mem _ hy)
      have b := q.t
      show 0 ≤ tI (.op w ns) + tL is
      omega
  · obtain ⟨w, ns, e, _⟩ := h _ hb
    cases e
theorem pc_1 {L : Lims} {j : Int} {w : Str} {ns : List Int} (h : opF L w ns) (h1 : decide (w = "take") = false) (h2 : decide (w = "give") = false) : Pc L 1 j [.op w ns] :=
  pc_flat (fun x hx => ⟨w, ns, List.mem_singleton.mp hx, h⟩) (bal_n h1 h2)
theorem pc_w {L : Lims} {j t : Int} (h0 : 0 ≤ t) (h1 : t ≤ 1000) : Pc L 1 j [.op "wait" [t]] := pc_1 (opF_w h0 h1) (by decide +kernel) (by decide +kernel)
theorem pc_rep {L : Lims} {n : Nat} {j k : Int} {b : List Ins} (h : Pc L n (j + 1) b) (hb : b ≠ []) (hj : j ≤ 3) (k0 : 0 ≤ k) (k5 : k ≤ 5) (hn : n ≤ 1000) : Pc L (n + 2) j [.rep k b] := by
  refine ⟨by have := h.ln; show (lnL b + 2) + 0 ≤ _; omega, ?_, bal_rep h.bal, ?_, ?_, ?_, fun c hc => by cases List.mem_singleton.mp hc⟩
  · show (okI L j (.rep k b) && true) = true
    unfold okI
    rw [h.ok]
    simp [isBn, k0, k5, hj, hb]
  · show (smI (.rep k b) && true) = true
    unfold smI
    rw [h.sm, decide_eq_true (show b.length ≤ 1000 by have := h.len; omega)]
    rfl
  · show (wrI (.rep k b) && true) = true
    unfold wrI
    rw [h.wr, decide_eq_true k0, decide_eq_true (show k ≤ 1000 by omega)]
    rfl
  · have e : tI (.rep k b) = k * tL b := by first | rfl | (unfold tI; rfl) | (unfold tI; rw [Int.mul_comm])
    show 0 ≤ tI (.rep k b) + 0
    rw [e]
    have := Int.mul_nonneg k0 h.t
    omega
theorem bal_two {a b k d e : Int} : Bal [.op "take" [a, k], .op "take" [b, e], .op "wait" [d], .op "give" [a], .op "give" [b]] := fun r u hu => by
  have w1 : decide (("wait" : Str) = "take") = false := by decide +kernel
  have w2 : decide (("wait" : Str) = "give") = false := by decide +kernel
  by_cases ha : r = a <;> by_cases hb : r = b
  · subst ha; subst hb
    rw [uL_cons (uT_same hu), uL_cons (uT_same (by omega)), uL_cons (uN w1 w2 (by omega)), uL_cons (uG_same (by omega)), uL_cons (uG_same (by omega))]
    show u + 1 + 1 - 1 - 1 = u; omega
  · subst ha
    rw [uL_cons (uT_same hu), uL_cons (uT_other hb (by omega)), uL_cons (uN w1 w2 (by omega)), uL_cons (uG_same (by omega)), uL_cons (uG_other hb (by omega))]
    show u + 1 - 1 = u; omega
  · subst hb
    rw [uL_cons (uT_other ha hu), uL_cons (uT_same (by omega)), uL_cons (uN w1 w2 (by omega)), uL_cons (uG_other ha (by omega)), uL_cons (uG_same (by omega))]
    show u + 1 - 1 = u; omega
  · rw [uL_cons (uT_other ha hu), uL_cons (uT_other hb hu), uL_cons (uN w1 w2 hu), uL_cons (uG_other ha hu), uL_cons (uG_other hb hu)]
    rfl
def d_law_chunk : DSp := fun ys m F _ => ∃ p l L, ys = [.l p, .d (.tuple (cntD L))] ∧ LimOk L ∧ PenL l ∧ m p = some (.lst l) ∧ ∀ is l' m', (∀ j, Pc L 5 j is) → is ≠ [] → PenL l' → Mle (mu m p (.lst l')) m' → F (.d (scrD is)) m'
theorem ok_law_chunk {f : Addr} {fd : FuncData} (F : Fun K "_law_chunk" "_law_chunk" s_law_chunk f fd) (T : Txt K mg) {a : Nat} {f1 f2 : Addr} {fd1 fd2 : FuncData} (G_law_draw : GF P w K mg base "_law_draw" 1 f1 fd1 ["_law_pen_here", "_law_many"] d_law_draw) (G_law_pick : GF P w K mg base "_law_pick" 2 f2 fd2 ["_law_pen_here", "_law_things"] d_law_pick) : FnD P w K mg base 3 f fd ["_law_pen_here", "_law_counts"] d_law_chunk := by
  refine Dl.Fun.dok F sc_law_chunk _ (fun cdv A outer s H E B hp =>
      (dss_cons (ds_asg (de_var (pv 1)) (dg_tup (n := 4) rfl (dgs_cons (dg_name (i := 2) sc_law_chunk.nd rfl (by first | exact Or.inl rfl | exact Or.inr rfl)) (dgs_cons (dg_name (i := 3) sc_law_chunk.nd rfl (by first | exact Or.inl rfl | exact Or.inr rfl)) (dgs_cons (dg_name (i := 4) sc_law_chunk.nd rfl (by first | exact Or.inl rfl | exact Or.inr rfl)) (dgs_cons (dg_name (i := 5) sc_law_chunk.nd rfl (by first | exact Or.inl rfl | exact Or.inr rfl)) dgs_nil))))))
      (dss_cons (ds_set (i := 6) sc_law_chunk.nd rfl (by first | exact Or.inl rfl | exact Or.inr rfl) (de_gf G_law_draw B.hr B.gd B.tk rfl (da_cons (de_var (pv 0)) (da_cons (de_int) da_nil))))
      (dss_cons (ds_if (DW.dt (dw_and (dt_cmp opd_lt (de_var (pv 6)) (de_int) (nomark _)) (dw_and1 (dt_cmp opd_gt (de_var (pv 2)) (de_int) (nomark _)))))
      (dss_cons (ds_set (i := 7) sc_law_chunk.nd rfl (by first | exact Or.inl rfl | exact Or.inr rfl) (de_gf G_law_draw B.hr B.gd B.tk rfl (da_cons (de_var (pv 0)) (da_cons (de_var (pv 2)) da_nil))))
      (dss_one (ds_ret (de_tup (da_cons (de_tup (da_cons (de_str) (da_cons (de_var (pv 7)) (da_cons (de_gf G_law_draw B.hr B.gd B.tk rfl (da_cons (de_var (pv 0)) (da_cons (de_int) da_nil))) da_nil)))) (da_cons (de_tup (da_cons (de_str) (da_cons (de_gf G_law_draw B.hr B.gd B.tk rfl (da_cons (de_var (pv 0)) (da_cons (de_int) da_nil))) da_nil))) (da_cons (de_tup (da_cons (de_str) (da_cons (de_var (pv 7)) da_nil))) da_nil)))))))
      dss_nil)
      (dss_cons (ds_if (DW.dt (dw_and (dt_cmp (opd_eq (Dl.Room.u64 B.hr)) (de_var (pv 6)) (de_int) (nomark _)) (dw_and1 (dt_cmp opd_gt (de_var (pv 3)) (de_int) (nomark _)))))
      (dss_cons (ds_set (i := 8) sc_law_chunk.nd rfl (by first | exact Or.inl rfl | exact Or.inr rfl) (de_gf G_law_draw B.hr B.gd B.tk rfl (da_cons (de_var (pv 0)) (da_cons (de_var (pv 3)) da_nil))))
      (dss_one (ds_ret (de_tup (da_cons (de_gf G_law_pick B.hr B.gd B.tk rfl (da_cons (de_var (pv 0)) (da_cons (de_lst (da_cons (de_tup (da_cons (de_str) (da_cons (de_var (pv 8)) (da_cons (de_gf G_law_draw B.hr B.gd B.tk rfl (da_cons (de_var (pv 0)) (da_cons (de_int) da_nil))) da_nil)))) (da_cons (de_tup (da_cons (de_str) (da_cons (de_var (pv 8)) da_nil))) da_nil))) da_nil))) da_nil)))))
      dss_nil)
      (dss_cons (ds_if (DW.dt (dw_and (dt_cmp (opd_eq (Dl.Room.u64 B.hr)) (de_var (pv 6)) (de_int) (nomark _)) (dw_and1 (dt_cmp opd_gt (de_var (pv 4)) (de_int) (nomark _)))))
      (dss_one (ds_ret (de_tup (da_cons (de_tup (da_cons (de_gf G_law_pick B.hr B.gd B.tk rfl (da_cons (de_var (pv 0)) (da_cons (de_lst (da_cons (de_str) (da_cons (de_str) (da_cons (de_str) da_nil)))) da_nil))) (da_cons (de_gf G_law_draw B.hr B.gd B.tk rfl (da_cons (de_var (pv 0)) (da_cons (de_var (pv 4)) da_nil))) da_nil))) da_nil))))
      dss_nil)
      (dss_cons (ds_if (dt_cmp (opd_eq (Dl.Room.u64 B.hr)) (de_var (pv 6)) (de_int) (nomark _))
      (dss_one (ds_ret (de_tup (da_cons (de_tup (da_cons (de_str) (da_cons (de_gf G_law_draw B.hr B.gd B.tk rfl (da_cons (de_var (pv 0)) (da_cons (de_var (pv 5)) da_nil))) da_nil))) da_nil))))
      dss_nil)
      (dss_cons (ds_if (dt_cmp (opd_eq (Dl.Room.u64 B.hr)) (de_var (pv 6)) (de_int) (nomark _))
      (dss_one (ds_ret (de_tup (da_cons (de_tup (da_cons (de_str) (da_cons (de_gf G_law_draw B.hr B.gd B.tk rfl (da_cons (de_var (pv 0)) (da_cons (de_int) da_nil))) da_nil))) da_nil))))
      dss_nil)
      (dss_cons (ds_if (DW.dt (dw_and (dt_cmp (opd_eq (Dl.Room.u64 B.hr)) (de_var (pv 6)) (de_int) (nomark _)) (dw_and1 (dt_cmp opd_gt (de_var (pv 2)) (de_int) (nomark _)))))
      (dss_cons (ds_par (i := 9) (j := 10) rfl sc_law_chunk.nd rfl rfl (by decide) rfl rfl (da_cons (de_gf G_law_draw B.hr B.gd B.tk rfl (da_cons (de_var (pv 0)) (da_cons (de_var (pv 2)) da_nil))) (da_cons (de_gf G_law_draw B.hr B.gd B.tk rfl (da_cons (de_var (pv 0)) (da_cons (de_var (pv 2)) da_nil))) da_nil)) rfl)
      (dss_cons (ds_set (i := 11) sc_law_chunk.nd rfl (by first | exact Or.inl rfl | exact Or.inr rfl) (de_tup (da_cons (de_tup (da_cons (de_str) (da_cons (de_gf G_law_draw B.hr B.gd B.tk rfl (da_cons (de_var (pv 0)) (da_cons (de_int) da_nil))) da_nil))) (da_cons (de_tup (da_cons (de_str) (da_cons (de_var (pv 9)) da_nil))) (da_cons (de_tup (da_cons (de_str) (da_cons (de_var (pv 10)) da_nil))) da_nil)))))
      (dss_one (ds_ret (de_op opd_add (de_tup (da_cons (de_tup (da_cons (de_str) (da_cons (de_var (pv 9)) (da_cons (de_gf G_law_draw B.hr B.gd B.tk rfl (da_cons (de_var (pv 0)) (da_cons (de_int) da_nil))) da_nil)))) (da_cons (de_tup (da_cons (de_str) (da_cons (de_var (pv 10)) (da_cons (de_gf G_law_draw B.hr B.gd B.tk rfl (da_cons (de_var (pv 0)) (da_cons (de_int) da_nil))) da_nil)))) da_nil))) (de_var (pv 11)))))))
      dss_nil)
      (dss_one (ds_ret (de_tup (da_cons (de_tup (da_cons (de_str) (da_cons (de_gf G_law_draw B.hr B.gd B.tk rfl (da_cons (de_var (pv 0)) (da_cons (de_int) da_nil))) da_nil))) da_nil))))))))))))) (fun ys m F P h => ?_)
  obtain ⟨p, l, L, rfl, hL, hl, hp, h⟩ := h
  obtain ⟨nr0, nr1⟩ := hL.nr
  obtain ⟨ns0, ns1⟩ := hL.ns
  obtain ⟨ng0, ng1⟩ := hL.ng
  obtain ⟨np0, np1⟩ := hL.np
  refine ⟨rfl, _, rfl, tup4 ⟨_, _, rfl, _, _, rfl, _, _, rfl, _, _, rfl, rfl, ?_⟩⟩
  refine ⟨_, rfl, p, 9, l, rfl, by decide, by decide, hl, hp, fun way l1 m1 w0 w8 hl1 hm1 => ?_⟩
  have hp1 := hm1 _ _ mu_same
  refine and_ci rfl rfl ?_
  refine iteB (fun c => ?_) (fun c => ?_)
  · obtain ⟨_, c2⟩ := (Bool.and_eq_true _ _).mp c
    have c2 := of_decide_eq_true c2
    refine ⟨_, rfl, _, rfl, p, L.nr, l1, rfl, c2, by omega, hl1, hp1, fun r l2 m2 r0 r1 hl2 hm2 => ?_⟩
    refine ⟨_, rfl, _, rfl, p, 10, l2, rfl, by decide, by decide, hl2, hm2 _ _ mu_same, fun k l3 m3 k0 k1 hl3 hm3 => ⟨len3 _ _ _, ?_⟩⟩
    refine ⟨_, rfl, p, 7, l3, rfl, by decide, by decide, hl3, hm3 _ _ mu_same, fun t l4 m4 t0 t1 hl4 hm4 => ⟨len2 _ _, ?_⟩⟩
    refine ⟨_, rfl, len2 _ _, len3 _ _ _, ?_⟩
    refine h [.op "take" [r, k], .op "wait" [t], .op "give" [r]] l4 m4 (fun j => (pc_flat (fun x hx => ?_) bal_tw).mono (by show 3 ≤ 5; decide)) (by simp) hl4 (pen_mle (pen_mle (pen_mle hm1 hm2) hm3) hm4)
    simp only [List.mem_cons, List.not_mem_nil, or_false] at hx
    rcases hx with rfl | rfl | rfl
    · exact ⟨_, _, rfl, opF_2 rfl rfl rfl r0 (by omega) (by omega) k0 (by omega) (by omega)⟩
    · exact ⟨_, _, rfl, opF_w t0 (by omega)⟩
    · exact ⟨_, _, rfl, opF_1 rfl rfl r0 (by omega) (by omega)⟩
  refine and_eq rfl rfl ?_
  refine iteB (fun c => ?_) (fun c => ?_)
  · obtain ⟨_, c2⟩ := (Bool.and_eq_true _ _).mp c
    have c2 := of_decide_eq_true c2
    refine ⟨_, rfl, _, rfl, p, L.ns, l1, rfl, c2, by omega, hl1, hp1, fun r l2 m2 r0 r1 hl2 hm2 => ?_⟩
    refine ⟨_, rfl, _, rfl, _, rfl, p, 100, l2, rfl, by decide, by decide, hl2, hm2 _ _ mu_same, fun k l3 m3 k0 k1 hl3 hm3 => ⟨len3 _ _ _, ?_⟩⟩
    refine ⟨_, rfl, len2 _ _, len2 _ _, [.tuple [.str "put", .int r, .int k], .tuple [.str "get", .int r]], rfl, p, _, l3, rfl, by simp, by simp, hl3, hm3 _ _ mu_same, fun d l4 m4 hd hl4 hm4 => ?_⟩
    refine ⟨len1 _, ?_⟩
    have hm := pen_mle (pen_mle (pen_mle hm1 hm2) hm3) hm4
    simp only [List.mem_cons, List.not_mem_nil, or_false] at hd
    rcases hd with rfl | rfl
    · exact h [.op "put" [r, k]] l4 m4 (fun j => (pc_1 (opF_2 rfl rfl rfl r0 (by omega) (by omega) k0 (by omega) (by omega)) (by decide +kernel) (by decide +kernel)).mono (by decide)) (by simp) hl4 hm
    · exact h [.op "get" [r]] l4 m4 (fun j => (pc_1 (opF_1 rfl rfl r0 (by omega) (by omega)) (by decide +kernel) (by decide +kernel)).mono (by decide)) (by simp) hl4 hm
  refine and_eq rfl rfl ?_
  refine iteB (fun c => ?_) (fun c => ?_)
  · obtain ⟨_, c2⟩ := (Bool.and_eq_true _ _).mp c
    have c2 := of_decide_eq_true c2
    refine ⟨_, rfl, len3 _ _ _, [.str "pass", .str "open", .str "shut"], rfl, p, _, l1, rfl, by decide, by decide, hl1, hp1, fun d l2 m2 hd hl2 hm2 => ?_⟩
    refine ⟨_, rfl, _, rfl, p, L.ng, l2, rfl, c2, by omega, hl2, hm2 _ _ mu_same, fun r l3 m3 r0 r1 hl3 hm3 => ?_⟩
    have hm := pen_mle (pen_mle hm1 hm2) hm3
    simp only [List.mem_cons, List.not_mem_nil, or_false] at hd
    rcases hd with rfl | rfl | rfl
    · exact ⟨len2 _ _, len1 _, h [.op "pass" [r]] l3 m3 (fun j => (pc_1 (opF_1 rfl rfl r0 (by omega) (by omega)) (by decide +kernel) (by decide +kernel)).mono (by decide)) (by simp) hl3 hm⟩
    · exact ⟨len2 _ _, len1 _, h [.op "open" [r]] l3 m3 (fun j => (pc_1 (opF_1 rfl rfl r0 (by omega) (by omega)) (by decide +kernel) (by decide +kernel)).mono (by decide)) (by simp) hl3 hm⟩
    · exact ⟨len2 _ _, len1 _, h [.op "shut" [r]] l3 m3 (fun j => (pc_1 (opF_1 rfl rfl r0 (by omega) (by omega)) (by decide +kernel) (by decide +kernel)).mono (by decide)) (by simp) hl3 hm⟩
  refine ⟨_, rfl, _, rfl, iteB (fun c => ?_) (fun c => ?_)⟩
  · refine ⟨_, rfl, _, rfl, p, L.np, l1, rfl, by omega, by omega, hl1, hp1, fun r l2 m2 r0 r1 hl2 hm2 => ⟨len2 _ _, len1 _, ?_⟩⟩
    exact h [.op "rouse" [r]] l2 m2 (fun j => (pc_1 (opF_1 rfl rfl r0 (by omega) (by omega)) (by decide +kernel) (by decide +kernel)).mono (by decide)) (by simp) hl2 (pen_mle hm1 hm2)
  refine ⟨_, rfl, _, rfl, iteB (fun c => ?_) (fun c => ?_)⟩
  · refine ⟨_, rfl, p, 1000, l1, rfl, by decide, by decide, hl1, hp1, fun r l2 m2 r0 r1 hl2 hm2 => ⟨len2 _ _, len1 _, ?_⟩⟩
    exact h [.op "mark" [r]] l2 m2 (fun j => (pc_1 (opF_1 (hi := 999) rfl rfl r0 (by omega) (by omega)) (by decide +kernel) (by decide +kernel)).mono (by decide)) (by simp) hl2 (pen_mle hm1 hm2)
  refine and_eq rfl rfl ?_
  refine iteB (fun c => ?_) (fun c => ?_)
  · obtain ⟨_, c2⟩ := (Bool.and_eq_true _ _).mp c
    have c2 := of_decide_eq_true c2
    refine ⟨_, rfl, _, rfl, p, L.nr, l1, rfl, by omega, by omega, hl1, hp1, fun a1 l2 m2 a10 a11 hl2 hm2 => ?_⟩
    refine ⟨_, rfl, _, rfl, p, L.nr, l2, rfl, by omega, by omega, hl2, hm2 _ _ mu_same, fun b1 l3 m3 b10 b11 hl3 hm3 => ⟨_, _, rfl, ?_⟩⟩
    refine ⟨_, rfl, p, 4, l3, rfl, by decide, by decide, hl3, hm3 _ _ mu_same, fun d l4 m4 d0 d1 hl4 hm4 => ⟨len2 _ _, ?_⟩⟩
    refine ⟨_, rfl, len2 _ _, _, rfl, len2 _ _, len3 _ _ _, ?_⟩
    refine ⟨_, rfl, _, rfl, p, 10, l4, rfl, by decide, by decide, hl4, hm4 _ _ mu_same, fun k l5 m5 k0 k1 hl5 hm5 => ⟨len3 _ _ _, ?_⟩⟩
    refine ⟨_, rfl, _, rfl, p, 10, l5, rfl, by decide, by decide, hl5, hm5 _ _ mu_same, fun e l6 m6 e0 e1 hl6 hm6 => ⟨len3 _ _ _, len2 _ _, ?_⟩⟩
    refine ⟨_, rfl, by show 2 + 3 ≤ 10000; decide, ?_⟩
    refine h [.op "take" [a1, k], .op "take" [b1, e], .op "wait" [d], .op "give" [a1], .op "give" [b1]] l6 m6 (fun j => (pc_flat (fun x hx => ?_) bal_two).mono (by show 5 ≤ 5; decide)) (by simp) hl6 (pen_mle (pen_mle (pen_mle (pen_mle (pen_mle hm1 hm2) hm3) hm4) hm5) hm6)
    simp only [List.mem_cons, List.not_mem_nil, or_false] at hx
    rcases hx with rfl | rfl | rfl | rfl | rfl
    · exact ⟨_, _, rfl, opF_2 rfl rfl rfl a10 (by omega) (by omega) k0 (by omega) (by omega)⟩
    · exact ⟨_, _, rfl, opF_2 rfl rfl rfl b10 (by omega) (by omega) e0 (by omega) (by omega)⟩
    · exact ⟨_, _, rfl, opF_w d0 (by omega)⟩
    · exact ⟨_, _, rfl, opF_1 rfl rfl a10 (by omega) (by omega)⟩
    · exact ⟨_, _, rfl, opF_1 rfl rfl b10 (by omega) (by omega)⟩
  refine ⟨_, rfl, p, 7, l1, rfl, by decide, by decide, hl1, hp1, fun r l2 m2 r0 r1 hl2 hm2 => ⟨len2 _ _, len1 _, ?_⟩⟩
  exact h [.op "wait" [r]] l2 m2 (fun j => (pc_w r0 (by omega)).mono (by decide)) (by simp) hl2 (pen_mle hm1 hm2)
abbrev s_law_body : Stmt := top 57
abbrev N_law_body : List Str := ["_law_pen_here", "_law_counts", "_law_many", "_law_found", "_law_lap", "_law_chunk_here"]
theorem sc_law_body : FnScope N_law_body ["_law_pen_here", "_law_counts", "_law_many"] (defScope s_law_body) := ⟨rfl, rfl, rfl, by decide +kernel, rfl, by decide +kernel, by decide +kernel⟩
def d_law_body : DSp := fun ys m F _ => ∃ (p : Addr) (l : List Y) (L : Lims) (k : Nat), ys = [.l p, .d (.tuple (cntD L)), .d (.int k)] ∧ LimOk L ∧ k ≤ 10 ∧ PenL l ∧ m p = some (.lst l) ∧ ∀ is l' m', (∀ j, Pc L (5 * k) j is) → PenL l' → Mle (mu m p (.lst l')) m' → F (.d (scrD is)) m'
theorem ok_law_body {f : Addr} {fd : FuncData} (F : Fun K "_law_body" "_law_body" s_law_body f fd) (T : Txt K mg) {a : Nat} {f1 : Addr} {fd1 : FuncData} (G_law_chunk : GF P w K mg base "_law_chunk" 3 f1 fd1 ["_law_pen_here", "_law_counts"] d_law_chunk) : FnD P w K mg base 4 f fd ["_law_pen_here", "_law_counts", "_law_many"] d_law_body := by
  refine Dl.Fun.dok F sc_law_body _ (fun cdv A outer s H E B hp =>
      (dss_cons (ds_set (i := 3) sc_law_body.nd rfl (by first | exact Or.inl rfl | exact Or.inr rfl) (de_tup da_nil))
      (dss_cons (ds_for hp rfl (di_range1 rfl T.b_range (da_cons (de_var (pv 2)) da_nil)) (dg_name (i := 4) sc_law_body.nd rfl (by first | exact Or.inl rfl | exact Or.inr rfl))
      (dss_cons (ds_set (i := 5) sc_law_body.nd rfl (by first | exact Or.inl rfl | exact Or.inr rfl) (de_gf G_law_chunk B.hr B.gd B.tk rfl (da_cons (de_var (pv 0)) (da_cons (de_var (pv 1)) da_nil))))
      (dss_one (ds_if (dt_cmp opd_le (de_op opd_add (de_cb cd_len rfl T.b_len boot_len (da_cons (de_var (pv 3)) da_nil)) (de_cb cd_len rfl T.b_len boot_len (da_cons (de_var (pv 5)) da_nil))) (de_int) (nomark _))
      (dss_one (ds_set (i := 3) sc_law_body.nd rfl (by first | exact Or.inl rfl | exact Or.inr rfl) (de_op opd_add (de_var (pv 3)) (de_var (pv 5)))))
      dss_nil))))
      (dss_one (ds_ret (de_var (pv 3))))))) (fun ys m F P h => ?_)
  obtain ⟨p, l, L, k, rfl, hL, hk, hl, hp, h⟩ := h
  refine ⟨rfl, len0, _, rfl, k, rfl, by omega, by omega, ?_⟩
  refine ⟨fun i rs m' => ∃ is l' o4 o5, rs = [some (.l p), some (.d (.tuple (cntD L))), some (.d (.int k)), some (.d (scrD is)), o4, o5] ∧ (∀ j, Pc L (5 * i) j is) ∧ PenL l' ∧ Mle (mu m p (.lst l')) m', ⟨[], l, _, _, rfl, fun j => Pc.nil, hl, by rw [mu_self hp]; exact Mle.refl⟩, ?_⟩
  rintro i _ m2 hi ⟨is, l2, o4, o5, rfl, hs, hl2, hm2⟩
  refine ⟨trivial, fun hlt => ?_, fun he => ?_⟩
  case refine_2 =>
    have he' : i = k := by have : i = (k : Int).toNat := he; omega
    subst he'
    exact ⟨_, rfl, h is l2 m2 hs hl2 hm2⟩
  have hlt' : i < k := by have : i < (k : Int).toNat := hlt; omega
  refine ⟨_, rfl, _, rfl, p, l2, L, rfl, hL, hl2, hm2 _ _ mu_same, fun js l3 m3 hj hjn hl3 hm3 => ?_⟩
  have n1 := (hs 1).len
  have n2 := (hj 1).len
  refine ⟨_, rfl, _, (is.map insD).map Y.d, rfl, .inr rfl, _, rfl, _, (js.map insD).map Y.d, rfl, .inr rfl, _, rfl, iteB (fun c => ?_) (fun c => ?_)⟩
  · refine ⟨_, rfl, _, rfl, by rw [List.length_map, List.length_map]; omega, ?_⟩
    have e1 : PyData.tuple (is.map insD ++ js.map insD) = scrD (is ++ js) := by unfold scrD; rw [List.map_append]
    rw [e1]
    exact ⟨is ++ js, l3, _, _, rfl, fun j => ((hs j).app (hj j)).mono (by omega), hl3, pen_mle hm2 hm3⟩
  · exact ⟨is, l3, _, _, rfl, fun j => (hs j).mono (by omega), hl3, pen_mle hm2 hm3⟩
abbrev s_law_script : Stmt := top 58
abbrev N_law_script : List Str := ["_law_pen_here", "_law_counts", "_law_found", "_law_way", "_law_body_here", "_law_inner"]
theorem sc_law_script : FnScope N_law_script ["_law_pen_here", "_law_counts"] (defScope s_law_script) := ⟨rfl, rfl, rfl, by decide +kernel, rfl, by decide +kernel, by decide +kernel⟩
/-- a script that may be drawn -/
structure ScrW (L : Lims) (is : List Ins) : Prop where
  v : ScrV L is
  ln : lnL is ≤ 40
  sm : smIs is = true
  wr : wrIs is = true
  dp : dpL is ≤ 3
theorem ScrW.pc {L : Lims} {n : Nat} {is : List Ins} (h : Pc L n 1 is) (hn : n ≤ 40) : ScrW L is := by
  obtain ⟨a1, a2⟩ := scr_plain L h.ok h.nf
  have := okIs_dp is h.ok
  exact ⟨⟨a1, a2, h.bal⟩, Nat.le_trans h.ln hn, h.sm, h.wr, by omega⟩
theorem ScrW.fore {L : Lims} {n k : Nat} {xs b : List Ins} (h : Pc L n 1 xs) (hb : Pc L k 2 b) (hne : b ≠ []) (ht : 1 ≤ tL b) (hn : n + k + 2 ≤ 40) : ScrW L (xs ++ [.fore b]) := by
  obtain ⟨a1, a2⟩ := scr_fore L h.ok hb.ok hne ht
  have d1 := okIs_dp xs h.ok
  have d2 := okIs_dp b hb.ok
  have n1 := h.ln
  have n2 := hb.ln
  refine ⟨⟨a1, a2, h.bal.app (bal_fore hb.bal)⟩, ?_, ?_, ?_, ?_⟩
  · rw [lnL_app]
    show lnL xs + ((lnL b + 2) + 0) ≤ 40
    omega
  · rw [smIs_app, h.sm, Bool.true_and]
    show (smI (.fore b) && true) = true
    unfold smI
    rw [hb.sm, decide_eq_true (show b.length ≤ 1000 by have := hb.len; omega)]
    rfl
  · rw [wrIs_app, h.wr, Bool.true_and]
    show (wrI (.fore b) && true) = true
    unfold wrI
    rw [hb.wr]
    rfl
  · rw [dpL_app]
    show max (dpL xs) (dpL b + 1) ≤ 3
    omega
theorem scrD_snoc (xs : List Ins) (i : Ins) : PyData.tuple (xs.map insD ++ [insD i]) = scrD (xs ++ [i]) := by unfold scrD; rw [List.map_append]; rfl
theorem snoc_ne {α : Type} (xs : List α) (x : α) : xs ++ [x] ≠ [] := by simp
theorem tL_w {t : Int} : tL [Ins.op "wait" [t]] = t := by
  show (if decide (("wait" : Str) = "wait") = true then t else 0) + 0 = t
  rw [if_pos (by simp)]
  omega
theorem xadd_t {a b : List Ins} {ds : List PyData} {m : Mu} {F : Y → Mu → Prop} (e : ds = b.map insD) (hl : a.length + b.length ≤ 10000) (h : F (.d (scrD (a ++ b))) m) : xAdd (.d (scrD a)) (.d (.tuple ds)) m F := by
  subst e
  refine ⟨by rw [List.length_map, List.length_map]; exact hl, ?_⟩
  rw [← List.map_append]
  exact h
theorem mk_add {a : List Ins} {j : Ins} {d : PyData} {m : Mu} {F : Y → Mu → Prop} (e : d = insD j) (hl : a.length + 1 ≤ 10000) (h : F (.d (scrD (a ++ [j]))) m) : mkT [.d d] m (fun z m2 => xAdd (.d (scrD a)) z m2 F) := by
  show xAdd (.d (scrD a)) (.d (.tuple [d])) m F
  exact xadd_t (b := [j]) (by rw [e]; rfl) hl h
def d_law_script : DSp := fun ys m F _ => ∃ p l L, ys = [.l p, .d (.tuple (cntD L))] ∧ LimOk L ∧ PenL l ∧ m p = some (.lst l) ∧ ∀ is l' m', ScrW L is → PenL l' → Mle (mu m p (.lst l')) m' → F (.d (scrD is)) m'
theorem ok_law_script {f : Addr} {fd : FuncData} (F : Fun K "_law_script" "_law_script" s_law_script f fd) (T : Txt K mg) {a : Nat} {f1 f2 f3 : Addr} {fd1 fd2 fd3 : FuncData} (G_law_draw : GF P w K mg base "_law_draw" 1 f1 fd1 ["_law_pen_here", "_law_many"] d_law_draw) (G_law_pick : GF P w K mg base "_law_pick" 2 f2 fd2 ["_law_pen_here", "_law_things"] d_law_pick) (G_law_body : GF P w K mg base "_law_body" 4 f3 fd3 ["_law_pen_here", "_law_counts", "_law_many"] d_law_body) : FnD P w K mg base 5 f fd ["_law_pen_here", "_law_counts"] d_law_script := by
  refine Dl.Fun.dok F sc_law_script _ (fun cdv A outer s H E B hp =>
      (dss_cons (ds_set (i := 2) sc_law_script.nd rfl (by first | exact Or.inl rfl | exact Or.inr rfl) (de_gf G_law_body B.hr B.gd B.tk rfl (da_cons (de_var (pv 0)) (da_cons (de_var (pv 1)) (da_cons (de_gf G_law_draw B.hr B.gd B.tk rfl (da_cons (de_var (pv 0)) (da_cons (de_int) da_nil))) da_nil)))))
      (dss_cons (ds_set (i := 3) sc_law_script.nd rfl (by first | exact Or.inl rfl | exact Or.inr rfl) (de_gf G_law_draw B.hr B.gd B.tk rfl (da_cons (de_var (pv 0)) (da_cons (de_int) da_nil))))
      (dss_cons (ds_if (dt_cmp (opd_eq (Dl.Room.u64 B.hr)) (de_var (pv 3)) (de_int) (nomark _))
      (dss_cons (ds_set (i := 4) sc_law_script.nd rfl (by first | exact Or.inl rfl | exact Or.inr rfl) (de_op opd_add (de_gf G_law_body B.hr B.gd B.tk rfl (da_cons (de_var (pv 0)) (da_cons (de_var (pv 1)) (da_cons (de_op opd_add (de_int) (de_gf G_law_draw B.hr B.gd B.tk rfl (da_cons (de_var (pv 0)) (da_cons (de_int) da_nil)))) da_nil)))) (de_tup (da_cons (de_tup (da_cons (de_str) (da_cons (de_gf G_law_draw B.hr B.gd B.tk rfl (da_cons (de_var (pv 0)) (da_cons (de_int) da_nil))) da_nil))) da_nil))))
      (dss_one (ds_set (i := 2) sc_law_script.nd rfl (by first | exact Or.inl rfl | exact Or.inr rfl) (de_op opd_add (de_var (pv 2)) (de_tup (da_cons (de_tup (da_cons (de_str) (da_cons (de_gf G_law_draw B.hr B.gd B.tk rfl (da_cons (de_var (pv 0)) (da_cons (de_int) da_nil))) (da_cons (de_var (pv 4)) da_nil)))) da_nil))))))
      dss_nil)
      (dss_cons (ds_if (dt_cmp (opd_eq (Dl.Room.u64 B.hr)) (de_var (pv 3)) (de_int) (nomark _))
      (dss_cons (ds_set (i := 4) sc_law_script.nd rfl (by first | exact Or.inl rfl | exact Or.inr rfl) (de_tup (da_cons (de_tup (da_cons (de_str) (da_cons (de_gf G_law_draw B.hr B.gd B.tk rfl (da_cons (de_var (pv 0)) (da_cons (de_int) da_nil))) da_nil))) (da_cons (de_tup (da_cons (de_str) (da_cons (de_gf G_law_draw B.hr B.gd B.tk rfl (da_cons (de_var (pv 0)) (da_cons (de_int) da_nil))) da_nil))) da_nil))))
      (dss_cons (ds_set (i := 5) sc_law_script.nd rfl (by first | exact Or.inl rfl | exact Or.inr rfl) (de_tup (da_cons (de_str) (da_cons (de_gf G_law_draw B.hr B.gd B.tk rfl (da_cons (de_var (pv 0)) (da_cons (de_int) da_nil))) (da_cons (de_var (pv 4)) da_nil)))))
      (dss_cons (ds_set (i := 4) sc_law_script.nd rfl (by first | exact Or.inl rfl | exact Or.inr rfl) (de_op opd_add (de_gf G_law_body B.hr B.gd B.tk rfl (da_cons (de_var (pv 0)) (da_cons (de_var (pv 1)) (da_cons (de_int) da_nil)))) (de_tup (da_cons (de_var (pv 5)) da_nil))))
      (dss_one (ds_set (i := 2) sc_law_script.nd rfl (by first | exact Or.inl rfl | exact Or.inr rfl) (de_op opd_add (de_var (pv 2)) (de_tup (da_cons (de_tup (da_cons (de_str) (da_cons (de_gf G_law_draw B.hr B.gd B.tk rfl (da_cons (de_var (pv 0)) (da_cons (de_int) da_nil))) (da_cons (de_var (pv 4)) da_nil)))) da_nil))))))))
      dss_nil)
      (dss_cons (ds_if (dt_cmp opd_gt (de_var (pv 3)) (de_int) (nomark _))
      (dss_cons (ds_set (i := 4) sc_law_script.nd rfl (by first | exact Or.inl rfl | exact Or.inr rfl) (de_gf G_law_body B.hr B.gd B.tk rfl (da_cons (de_var (pv 0)) (da_cons (de_var (pv 1)) (da_cons (de_op opd_add (de_int) (de_gf G_law_draw B.hr B.gd B.tk rfl (da_cons (de_var (pv 0)) (da_cons (de_int) da_nil)))) da_nil)))))
      (dss_one (ds_set (i := 2) sc_law_script.nd rfl (by first | exact Or.inl rfl | exact Or.inr rfl) (de_op opd_add (de_var (pv 2)) (de_tup (da_cons (de_tup (da_cons (de_str) (da_cons (de_op opd_add (de_var (pv 4)) (de_tup (da_cons (de_tup (da_cons (de_str) (da_cons (de_gf G_law_pick B.hr B.gd B.tk rfl (da_cons (de_var (pv 0)) (da_cons (de_lst (da_cons (de_int) (da_cons (de_int) (da_cons (de_int) (da_cons (de_int) (da_cons (de_int) (da_cons (de_int) da_nil))))))) da_nil))) da_nil))) da_nil))) da_nil))) da_nil))))))
      dss_nil)
      (dss_one (ds_ret (de_var (pv 2)))))))))) (fun ys m F P h => ?_)
  obtain ⟨p, l, L, rfl, hL, hl, hp, h⟩ := h
  refine ⟨rfl, _, rfl, _, rfl, _, rfl, p, 4, l, rfl, by decide, by decide, hl, hp, fun k l1 m1 k0 k1 hl1 hm1 => ?_⟩
  obtain ⟨k, rfl⟩ := Int.eq_ofNat_of_zero_le k0
  refine ⟨p, l1, L, k, rfl, hL, by omega, hl1, hm1 _ _ mu_same, fun xs l2 m2 hxs hl2 hm2 => ?_⟩
  have hx : Pc L 15 1 xs := (hxs 1).mono (by omega)
  have hm12 := pen_mle hm1 hm2
  have lx := hx.len
  refine ⟨_, rfl, p, 5, l2, rfl, by decide, by decide, hl2, hm2 _ _ mu_same, fun way l3 m3 w0 w4 hl3 hm3 => ?_⟩
  have hm3' := pen_mle hm12 hm3
  have hp3 : m3 p = some (.lst l3) := hm3 _ _ mu_same
  have hcase : way = 0 ∨ way = 1 ∨ way = 2 ∨ 2 < way := by omega
  rcases hcase with rfl | rfl | rfl | hw2
  · refine ⟨_, rfl, _, rfl, iteE (by decide) ?_⟩
    refine ⟨_, rfl, _, rfl, iteE (by decide) ?_⟩
    refine ⟨_, rfl, _, rfl, iteE (by decide) ?_⟩
    exact ⟨_, rfl, h xs l3 m3 (ScrW.pc hx (by decide)) hl3 hm3'⟩
  · refine ⟨_, rfl, _, rfl, iteI (by decide) ?_⟩
    refine ⟨_, rfl, _, rfl, _, rfl, p, 2, l3, rfl, by decide, by decide, hl3, hp3, fun z l4 m4 z0 z1 hl4 hm4 => ?_⟩
    obtain ⟨z, rfl⟩ := Int.eq_ofNat_of_zero_le z0
    refine ⟨p, l4, L, 1 + z, by rw [show ((1 + z : Nat) : Int) = 1 + (z : Int) by omega]; rfl, hL, by omega, hl4, hm4 _ _ mu_same, fun b l5 m5 hb hl5 hm5 => ?_⟩
    refine ⟨_, rfl, p, 3, l5, rfl, by decide, by decide, hl5, hm5 _ _ mu_same, fun t l6 m6 t0 t1 hl6 hm6 => ⟨len2 _ _, len1 _, mk_add (j := .op "wait" [t]) rfl (by have := (hb 2).len; omega) ?_⟩⟩
    have hb2 : Pc L 11 2 (b ++ [.op "wait" [t]]) := ((hb 2).app (pc_w t0 (by omega))).mono (by omega)
    have lb := hb2.len
    rw [List.length_append] at lb
    refine ⟨_, rfl, _, rfl, p, 6, l6, rfl, by decide, by decide, hl6, hm6 _ _ mu_same, fun c l7 m7 c0 c1 hl7 hm7 => ?_⟩
    refine ⟨_, rfl, len3 _ _ _, len1 _, mk_add (j := .rep c (b ++ [.op "wait" [t]])) (insD_rep _ _).symm (by omega) ?_⟩
    refine ⟨_, rfl, _, rfl, iteE (by decide) ?_⟩
    refine ⟨_, rfl, _, rfl, iteE (by decide) ?_⟩
    exact ⟨_, rfl, h _ l7 m7 (ScrW.pc (hx.app (pc_rep hb2 (snoc_ne _ _) (by decide) c0 (by omega) (by decide))) (by decide)) hl7 (pen_mle (pen_mle (pen_mle (pen_mle hm3' hm4) hm5) hm6) hm7)⟩
  · refine ⟨_, rfl, _, rfl, iteE (by decide) ?_⟩
    refine ⟨_, rfl, _, rfl, iteI (by decide) ?_⟩
    refine ⟨_, rfl, p, 9, l3, rfl, by decide, by decide, hl3, hp3, fun a l4 m4 a0 a1 hl4 hm4 => ⟨len2 _ _, ?_⟩⟩
    refine ⟨_, rfl, p, 3, l4, rfl, by decide, by decide, hl4, hm4 _ _ mu_same, fun t l5 m5 t0 t1 hl5 hm5 => ⟨len2 _ _, len2 _ _, ?_⟩⟩
    refine ⟨_, rfl, p, 4, l5, rfl, by decide, by decide, hl5, hm5 _ _ mu_same, fun c l6 m6 c0 c1 hl6 hm6 => ?_⟩
    refine ⟨_, rfl, len3 _ _ _, ?_⟩
    have hi : Pc L 2 3 [.op "mark" [a], .op "wait" [t]] := (pc_1 (opF_1 (hi := 999) rfl rfl a0 (by omega) (by omega)) (by decide +kernel) (by decide +kernel)).app (pc_w t0 (by omega))
    have hin : Pc L 4 2 [.rep c [.op "mark" [a], .op "wait" [t]]] := pc_rep hi (by simp) (by decide) c0 (by omega) (by decide)
    refine ⟨_, rfl, _, rfl, p, l6, L, 1, rfl, hL, by decide, hl6, hm6 _ _ mu_same, fun b l7 m7 hb hl7 hm7 => ?_⟩
    have lb := (hb 1).len
    refine ⟨_, rfl, len1 _, mk_add (j := .rep c [.op "mark" [a], .op "wait" [t]]) (by rw [insD_rep]; rfl) (by omega) ?_⟩
    have hb2 : Pc L 9 2 (b ++ [.rep c [.op "mark" [a], .op "wait" [t]]]) := (hb 2).app hin
    refine ⟨_, rfl, _, rfl, p, 4, l7, rfl, by decide, by decide, hl7, hm7 _ _ mu_same, fun c2 l8 m8 c20 c21 hl8 hm8 => ?_⟩
    refine ⟨_, rfl, len3 _ _ _, len1 _, mk_add (j := .rep c2 (b ++ [.rep c [.op "mark" [a], .op "wait" [t]]])) (insD_rep _ _).symm (by have := hb2.len; omega) ?_⟩
    refine ⟨_, rfl, _, rfl, iteE (by decide) ?_⟩
    exact ⟨_, rfl, h _ l8 m8 (ScrW.pc (hx.app (pc_rep hb2 (snoc_ne _ _) (by decide) c20 (by omega) (by decide))) (by decide)) hl8 (pen_mle (pen_mle (pen_mle (pen_mle (pen_mle hm3' hm4) hm5) hm6) hm7) hm8)⟩
  · refine ⟨_, rfl, _, rfl, iteE (decide_eq_false (by omega)) ?_⟩
    refine ⟨_, rfl, _, rfl, iteE (decide_eq_false (by omega)) ?_⟩
    refine ⟨_, rfl, _, rfl, iteI (decide_eq_true hw2) ?_⟩
    refine ⟨_, rfl, _, rfl, _, rfl, p, 2, l3, rfl, by decide, by decide, hl3, hp3, fun z l4 m4 z0 z1 hl4 hm4 => ?_⟩
    obtain ⟨z, rfl⟩ := Int.eq_ofNat_of_zero_le z0
    refine ⟨p, l4, L, 1 + z, by rw [show ((1 + z : Nat) : Int) = 1 + (z : Int) by omega]; rfl, hL, by omega, hl4, hm4 _ _ mu_same, fun b l5 m5 hb hl5 hm5 => ?_⟩
    refine ⟨_, rfl, _, rfl, _, rfl, by show 6 ≤ 10000; decide, [.int 2, .int 3, .int 4, .int 6, .int 8, .int 12], rfl, p, _, l5, rfl, by decide, by decide, hl5, hm5 _ _ mu_same, fun d l6 m6 hd hl6 hm6 => ?_⟩
    obtain ⟨t, rfl, t0, t1⟩ : ∃ t : Int, d = .int t ∧ 1 ≤ t ∧ t ≤ 12 := by
      simp only [List.mem_cons, List.not_mem_nil, or_false] at hd
      rcases hd with rfl | rfl | rfl | rfl | rfl | rfl <;> exact ⟨_, rfl, by decide, by decide⟩
    have lb := (hb 2).len
    refine ⟨len2 _ _, len1 _, mk_add (j := .op "wait" [t]) rfl (by omega) ?_⟩
    refine ⟨len2 _ _, len1 _, mk_add (j := .fore (b ++ [.op "wait" [t]])) (insD_fore _).symm (by omega) ?_⟩
    refine ⟨_, rfl, h _ l6 m6 (ScrW.fore (n := 15) (k := 11) hx (((hb 2).app (pc_w (by omega) (by omega))).mono (by omega)) (snoc_ne _ _) ?_ (by decide)) hl6 (pen_mle (pen_mle (pen_mle hm3' hm4) hm5) hm6)⟩
    rw [tL_app, tL_w]
    have := (hb 2).t
    omega
abbrev s_law_has_rouse : Stmt := top 59
abbrev N_law_has_rouse : List Str := ["_law_script_here", "_law_instruction"]
theorem sc_law_has_rouse : FnScope N_law_has_rouse ["_law_script_here"] (defScope s_law_has_rouse) := ⟨rfl, rfl, rfl, by decide +kernel, rfl, by decide +kernel, by decide +kernel⟩
mutual
def roI : Ins → Bool
  | .op w _ => decide (w = "rouse")
  | .rep _ b => roL b
  | .fore b => roL b
def roL : List Ins → Bool
  | [] => false
  | i :: is => roI i || roL is
end
def d_law_has_rouse (n : Nat) : DSp := fun ys m F _ => ∃ is, ys = [.d (scrD is)] ∧ dpL is ≤ n ∧ gdL is = true ∧ ∀ m', Mle m m' → F (.d (.bool (roL is))) m'
def d_law_has_rouseP (n : Nat) : DSp := fun ys m F P => ∃ k, n = k + 1 ∧ d_law_has_rouse k ys m F P
theorem s_ro : decide (("repeat" : Str) = "rouse") = false ∧ decide (("forever" : Str) = "rouse") = false := by decide +kernel
theorem ok_law_has_rouse {f : Addr} {fd : FuncData} (F : Fun K "_law_has_rouse" "_law_has_rouse" s_law_has_rouse f fd) (T : Txt K mg) {n a : Nat} {f1 : Addr} {fd1 : FuncData} (G_law_has_rouse : GF P w K mg base "_law_has_rouse" a f1 fd1 ["_law_script_here"] (d_law_has_rouseP n)) : FnD P w K mg base (a+1) f fd ["_law_script_here"] (d_law_has_rouse n) := by
  refine Dl.Fun.dok F sc_law_has_rouse _ (fun cdv A outer s H E B hp =>
      (dss_cons (ds_for hp rfl (di_seq (de_var (pv 0))) (dg_name (i := 1) sc_law_has_rouse.nd rfl (by first | exact Or.inl rfl | exact Or.inr rfl))
      (dss_cons (ds_if (dt_cmp (opd_eq (Dl.Room.u64 B.hr)) (de_ix (de_var (pv 1)) (de_int) (by intro _ _; rfl)) (de_str) (nomark _))
      (dss_one (ds_ret (de_bl)))
      dss_nil)
      (dss_one (ds_if (DW.dt (dw_and (dt_cmp opd_in (de_ix (de_var (pv 1)) (de_int) (by intro _ _; rfl)) (de_tup (da_cons (de_str) (da_cons (de_str) da_nil))) (by rfl)) (dw_and1 (dt_tru (de_gf G_law_has_rouse B.hr B.gd B.tk rfl (da_cons (de_ix (de_var (pv 1)) (de_neg (de_int)) (by intro _ _; rfl)) da_nil) (hk := by omega))))))
      (dss_one (ds_ret (de_bl)))
      dss_nil))))
      (dss_one (ds_ret (de_bl))))) (fun ys m F P h => ?_)
  obtain ⟨is, rfl, hd, hg, h⟩ := h
  refine ⟨rfl, _, rfl, (is.map insD).map Y.d, rfl, ?_⟩
  refine ⟨fun i rs m' => ∃ o3, rs = [some (.d (scrD is)), o3] ∧ roL is = roL (is.drop i) ∧ Mle m m', ⟨_, rfl, by rw [List.drop_zero], Mle.refl⟩, ?_⟩
  rintro i _ m1 hi ⟨o3, rfl, hu, hm⟩
  refine ⟨fun _ e => (nomatch e), fun hlt => ?_, fun he => ?_⟩
  case refine_2 =>
    have he' : i = ((is.map insD).map Y.d).length := he
    rw [List.length_map, List.length_map] at he'
    rw [he', List.drop_length] at hu
    have hu' : roL is = false := hu
    rw [hu'] at h
    exact h m1 hm
  have hlt' : i < is.length := by
    have h2 : i < ((is.map insD).map Y.d).length := hlt
    rwa [List.length_map, List.length_map] at h2
  have e1 : is[i]? = some is[i] := List.getElem?_eq_getElem hlt'
  have hgi : gdI is[i] = true := List.all_eq_true.mp (by rw [← gdL_all]; exact hg) _ (List.getElem_mem hlt')
  have hdi : dpI is[i] ≤ n := Nat.le_trans (dpL_mem (List.getElem_mem hlt')) hd
  rw [drop_at hlt'] at hu
  have hu2 : roL is = (roI is[i] || roL (is.drop (i + 1))) := hu
  clear hu
  refine ⟨.d (insD is[i]), by rw [List.getElem?_map, List.getElem?_map, e1]; rfl, ?_⟩
  generalize is[i] = ii at hgi hdi hu2
  cases ii with
  | op x ns =>
    obtain ⟨g1, g2⟩ := (Bool.and_eq_true _ _).mp hgi
    have et : roI (.op x ns) = decide (x = "rouse") := rfl
    rw [et] at hu2
    have hin : inD (.str x) (List.map PyData.str ["repeat", "forever"]) = false := by
      rw [inD_str]
      exact decide_eq_false (by simp [op_ne g1, op_nf g1])
    refine ⟨_, rfl, 0, _, .d (.str x), rfl, rfl, at_zero, _, rfl, iteB (fun c1 => ?_) (fun c1 => ?_)⟩
    · rw [c1, Bool.true_or] at hu2
      rw [hu2] at h
      exact h m1 hm
    · rw [c1, Bool.false_or] at hu2
      refine ⟨_, rfl, 0, _, .d (.str x), rfl, rfl, at_zero, len2 _ _, .str x, [.str "repeat", .str "forever"], rfl, rfl, rfl, rfl, _, rfl, iteE hin ?_⟩
      exact iteF ⟨_, rfl, hu2, hm⟩
  | rep k b =>
    have hin : inD (.str "repeat") (List.map PyData.str ["repeat", "forever"]) = true := by
      rw [inD_str]
      exact decide_eq_true (by simp)
    obtain ⟨s1, s2⟩ := (Bool.and_eq_true _ _).mp hgi
    obtain ⟨q, rfl⟩ : ∃ q, n = q + 1 := ⟨n - 1, by have : dpL b + 1 ≤ n := hdi; omega⟩
    have hdb : dpL b ≤ q := Nat.le_of_succ_le_succ hdi
    have et : roI (.rep k b) = roL b := rfl
    rw [et] at hu2
    rw [insD_rep]
    refine ⟨_, rfl, 0, _, .d (.str "repeat"), rfl, rfl, at_zero, _, rfl, iteE s_ro.1 ?_⟩
    refine ⟨_, rfl, 0, _, .d (.str "repeat"), rfl, rfl, at_zero, len2 _ _, .str "repeat", [.str "repeat", .str "forever"], rfl, rfl, rfl, rfl, _, rfl, iteI hin ?_⟩
    refine ⟨_, rfl, 1, rfl, -1, ([PyData.str "repeat", PyData.int k] ++ [scrD b]).map Y.d, .d (scrD b), rfl, rfl, by rw [List.map_append]; exact at_last, q, rfl, b, rfl, hdb, s2, fun m2 h2 => ?_⟩
    refine ⟨_, rfl, iteB (fun c1 => ?_) (fun c1 => ?_)⟩
    · rw [c1, Bool.true_or] at hu2
      rw [hu2] at h
      exact h m2 (hm.trans h2)
    · rw [c1, Bool.false_or] at hu2
      exact ⟨_, rfl, hu2, hm.trans h2⟩
  | fore b =>
    have hin : inD (.str "forever") (List.map PyData.str ["repeat", "forever"]) = true := by
      rw [inD_str]
      exact decide_eq_true (by simp)
    obtain ⟨q, rfl⟩ : ∃ q, n = q + 1 := ⟨n - 1, by have : dpL b + 1 ≤ n := hdi; omega⟩
    have hdb : dpL b ≤ q := Nat.le_of_succ_le_succ hdi
    have et : roI (.fore b) = roL b := rfl
    rw [et] at hu2
    rw [insD_fore]
    refine ⟨_, rfl, 0, _, .d (.str "forever"), rfl, rfl, at_zero, _, rfl, iteE s_ro.2 ?_⟩
    refine ⟨_, rfl, 0, _, .d (.str "forever"), rfl, rfl, at_zero, len2 _ _, .str "forever", [.str "repeat", .str "forever"], rfl, rfl, rfl, rfl, _, rfl, iteI hin ?_⟩
    refine ⟨_, rfl, 1, rfl, -1, ([PyData.str "forever"] ++ [scrD b]).map Y.d, .d (scrD b), rfl, rfl, by rw [List.map_append]; exact at_last, q, rfl, b, rfl, hdb, hgi, fun m2 h2 => ?_⟩
    refine ⟨_, rfl, iteB (fun c1 => ?_) (fun c1 => ?_)⟩
    · rw [c1, Bool.true_or] at hu2
      rw [hu2] at h
      exact h m2 (hm.trans h2)
    · rw [c1, Bool.false_or] at hu2
      exact ⟨_, rfl, hu2, hm.trans h2⟩
abbrev s_law_pass_time : Stmt := top 60
abbrev N_law_pass_time : List Str := ["_law_body_here", "_law_calm", "_law_total", "_law_instruction"]
theorem sc_law_pass_time : FnScope N_law_pass_time ["_law_body_here", "_law_calm"] (defScope s_law_pass_time) := ⟨rfl, rfl, rfl, by decide +kernel, rfl, by decide +kernel, by decide +kernel⟩
mutual
def psI (c : Bool) : Ins → Int
  | .op w ns => if decide (w = "wait") = true then (if c = true then ns.head?.getD 0 else (if 1 < ns.head?.getD 0 then 1 else ns.head?.getD 0)) else 0
  | .rep k b => k * psL c b
  | .fore _ => 0
def psL (c : Bool) : List Ins → Int
  | [] => 0
  | i :: is => psI c i + psL c is
end
def d_law_pass_time (n : Nat) : DSp := fun ys m F _ => ∃ is c, ys = [.d (scrD is), .d (.bool c)] ∧ dpL is ≤ n ∧ gdL is = true ∧ ∀ m', Mle m m' → F (.d (.int (psL c is))) m'
def d_law_pass_timeP (n : Nat) : DSp := fun ys m F P => ∃ k, n = k + 1 ∧ d_law_pass_time k ys m F P
theorem ok_law_pass_time {f : Addr} {fd : FuncData} (F : Fun K "_law_pass_time" "_law_pass_time" s_law_pass_time f fd) (T : Txt K mg) {n a : Nat} {f1 : Addr} {fd1 : FuncData} (G_law_pass_time : GF P w K mg base "_law_pass_time" a f1 fd1 ["_law_body_here", "_law_calm"] (d_law_pass_timeP n)) : FnD P w K mg base (a+1) f fd ["_law_body_here", "_law_calm"] (d_law_pass_time n) := by
  refine Dl.Fun.dok F sc_law_pass_time _ (fun cdv A outer s H E B hp =>
      (dss_cons (ds_set (i := 2) sc_law_pass_time.nd rfl (by first | exact Or.inl rfl | exact Or.inr rfl) (de_int))
      (dss_cons (ds_for hp rfl (di_seq (de_var (pv 0))) (dg_name (i := 3) sc_law_pass_time.nd rfl (by first | exact Or.inl rfl | exact Or.inr rfl))
      (dss_cons (ds_if (dt_cmp (opd_eq (Dl.Room.u64 B.hr)) (de_ix (de_var (pv 3)) (de_int) (by intro _ _; rfl)) (de_str) (nomark _))
      (dss_one (ds_set (i := 2) sc_law_pass_time.nd rfl (by first | exact Or.inl rfl | exact Or.inr rfl) (de_op opd_add (de_var (pv 2)) (de_if (dt_tru (de_var (pv 1))) (de_ix (de_var (pv 3)) (de_int) (by intro _ _; rfl)) (de_cb (cd_min2 rfl) rfl T.b_min boot_min (da_cons (de_ix (de_var (pv 3)) (de_int) (by intro _ _; rfl)) (da_cons (de_int) da_nil)))))))
      dss_nil)
      (dss_one (ds_if (dt_cmp (opd_eq (Dl.Room.u64 B.hr)) (de_ix (de_var (pv 3)) (de_int) (by intro _ _; rfl)) (de_str) (nomark _))
      (dss_one (ds_set (i := 2) sc_law_pass_time.nd rfl (by first | exact Or.inl rfl | exact Or.inr rfl) (de_op opd_add (de_var (pv 2)) (de_op opd_mul (de_ix (de_var (pv 3)) (de_int) (by intro _ _; rfl)) (de_gf G_law_pass_time B.hr B.gd B.tk rfl (da_cons (de_ix (de_var (pv 3)) (de_int) (by intro _ _; rfl)) (da_cons (de_var (pv 1)) da_nil)) (hk := by omega))))))
      dss_nil))))
      (dss_one (ds_ret (de_var (pv 2))))))) (fun ys m F P h => ?_)
  obtain ⟨is, c, rfl, hd, hg, h⟩ := h
  refine ⟨rfl, _, rfl, (is.map insD).map Y.d, rfl, ?_⟩
  refine ⟨fun i rs m' => ∃ t o3, rs = [some (.d (scrD is)), some (.d (.bool c)), some (.d (.int t)), o3] ∧ psL c is = t + psL c (is.drop i) ∧ Mle m m', ⟨0, _, rfl, by rw [List.drop_zero]; omega, Mle.refl⟩, ?_⟩
  rintro i _ m1 hi ⟨t, o3, rfl, hu, hm⟩
  refine ⟨fun _ e => (nomatch e), fun hlt => ?_, fun he => ?_⟩
  case refine_2 =>
    have he' : i = ((is.map insD).map Y.d).length := he
    rw [List.length_map, List.length_map] at he'
    rw [he', List.drop_length] at hu
    refine ⟨_, rfl, ?_⟩
    have hu' : psL c is = t := by have e0 : psL c [] = 0 := rfl; omega
    rw [← hu']
    exact h m1 hm
  have hlt' : i < is.length := by
    have h2 : i < ((is.map insD).map Y.d).length := hlt
    rwa [List.length_map, List.length_map] at h2
  have e1 : is[i]? = some is[i] := List.getElem?_eq_getElem hlt'
  have hgi : gdI is[i] = true := List.all_eq_true.mp (by rw [← gdL_all]; exact hg) _ (List.getElem_mem hlt')
  have hdi : dpI is[i] ≤ n := Nat.le_trans (dpL_mem (List.getElem_mem hlt')) hd
  rw [drop_at hlt'] at hu
  have hu2 : psL c is = t + (psI c is[i] + psL c (is.drop (i + 1))) := hu
  clear hu
  refine ⟨.d (insD is[i]), by rw [List.getElem?_map, List.getElem?_map, e1]; rfl, ?_⟩
  generalize is[i] = ii at hgi hdi hu2
  cases ii with
  | op x ns =>
    obtain ⟨g1, g2⟩ := (Bool.and_eq_true _ _).mp hgi
    obtain ⟨v, ns, rfl⟩ : ∃ v t, ns = v :: t := by
      cases ns with
      | nil => simp at g2
      | cons v t => exact ⟨v, t, rfl⟩
    have nr : decide (x = "repeat") = false := decide_eq_false (op_ne g1)
    have et : psI c (.op x (v :: ns)) = if decide (x = "wait") = true then (if c = true then v else (if 1 < v then 1 else v)) else 0 := rfl
    rw [et] at hu2
    refine ⟨_, rfl, 0, _, .d (.str x), rfl, rfl, at_zero, _, rfl, iteB (fun c1 => ?_) (fun c1 => ?_)⟩
    · rw [if_pos c1] at hu2
      refine ⟨_, rfl, _, rfl, _, rfl, iteB (fun c2 => ?_) (fun c2 => ?_)⟩
      · rw [if_pos c2] at hu2
        refine ⟨_, rfl, 1, _, .d (.int v), rfl, rfl, at_nat (n := 1) rfl, ?_⟩
        refine ⟨_, rfl, 0, _, .d (.str x), rfl, rfl, at_zero, _, rfl, iteE nr ?_⟩
        exact ⟨t + v, _, rfl, by omega, hm⟩
      · rw [if_neg (by rw [c2]; exact Bool.false_ne_true)] at hu2
        refine ⟨_, rfl, 1, _, .d (.int v), rfl, rfl, at_nat (n := 1) rfl, ?_⟩
        refine ⟨_, _, rfl, ?_⟩
        refine ⟨_, rfl, 0, _, .d (.str x), rfl, rfl, at_zero, _, rfl, iteE nr ?_⟩
        exact ⟨t + (if 1 < v then 1 else v), _, rfl, by omega, hm⟩
    · rw [if_neg (by rw [c1]; exact Bool.false_ne_true)] at hu2
      refine ⟨_, rfl, 0, _, .d (.str x), rfl, rfl, at_zero, _, rfl, iteE nr ?_⟩
      exact ⟨t, _, rfl, by omega, hm⟩
  | rep k b =>
    obtain ⟨s1, s2⟩ := (Bool.and_eq_true _ _).mp hgi
    obtain ⟨s3, s4⟩ := (Bool.and_eq_true _ _).mp s1
    have s3 := of_decide_eq_true s3
    have s4 := of_decide_eq_true s4
    obtain ⟨q, rfl⟩ : ∃ q, n = q + 1 := ⟨n - 1, by have : dpL b + 1 ≤ n := hdi; omega⟩
    have hdb : dpL b ≤ q := Nat.le_of_succ_le_succ hdi
    have et : psI c (.rep k b) = k * psL c b := rfl
    rw [et] at hu2
    rw [insD_rep]
    refine ⟨_, rfl, 0, _, .d (.str "repeat"), rfl, rfl, at_zero, _, rfl, iteE s_wt.1.1 ?_⟩
    refine ⟨_, rfl, 0, _, .d (.str "repeat"), rfl, rfl, at_zero, _, rfl, iteI s_rr ?_⟩
    refine ⟨_, rfl, _, rfl, 1, _, .d (.int k), rfl, rfl, at_nat (n := 1) rfl, ?_⟩
    refine ⟨_, rfl, 2, _, .d (scrD b), rfl, rfl, at_nat (n := 2) rfl, ?_⟩
    refine ⟨_, rfl, q, rfl, b, c, rfl, hdb, s2, fun m2 h2 => ?_⟩
    refine ⟨.inl ⟨by omega, by omega⟩, ?_⟩
    exact ⟨t + k * psL c b, _, rfl, by omega, hm.trans h2⟩
  | fore b =>
    have et : psI c (.fore b) = 0 := rfl
    rw [et] at hu2
    rw [insD_fore]
    refine ⟨_, rfl, 0, _, .d (.str "forever"), rfl, rfl, at_zero, _, rfl, iteE s_wt.1.2 ?_⟩
    refine ⟨_, rfl, 0, _, .d (.str "forever"), rfl, rfl, at_zero, _, rfl, iteE s_wt.2 ?_⟩
    exact ⟨t, _, rfl, by omega, hm⟩
abbrev s_law_cost : Stmt := top 61
abbrev N_law_cost : List Str := ["_law_script_here", "_law_calm", "_law_total", "_law_instruction", "_law_many"]
theorem sc_law_cost : FnScope N_law_cost ["_law_script_here", "_law_calm"] (defScope s_law_cost) := ⟨rfl, rfl, rfl, by decide +kernel, rfl, by decide +kernel, by decide +kernel⟩
mutual
theorem psI_bd (c : Bool) : ∀ (i : Ins) {d : Nat}, wrI i = true → gdI i = true → dpI i ≤ d → 0 ≤ psI c i ∧ psI c i ≤ (lnI i : Int) * (1000 * 5 ^ d)
  | .op w ns, d, h, _, _ => by
    unfold wrI at h
    obtain ⟨_, h2⟩ := (Bool.and_eq_true _ _).mp h
    obtain ⟨_, h4⟩ := (Bool.and_eq_true _ _).mp h2
    have hv : 0 ≤ ns.head?.getD 0 ∧ ns.head?.getD 0 ≤ 1000 := by
      cases ns with
      | nil => exact ⟨by decide, by decide⟩
      | cons v t =>
        obtain ⟨a, b⟩ := (Bool.and_eq_true _ _).mp (List.all_eq_true.mp h4 v (List.mem_cons_self ..))
        exact ⟨of_decide_eq_true a, of_decide_eq_true b⟩
    have hp : (1 : Int) ≤ 5 ^ d := by exact_mod_cast Nat.one_le_pow d 5 (by decide)
    show 0 ≤ (if decide (w = "wait") = true then (if c = true then ns.head?.getD 0 else (if 1 < ns.head?.getD 0 then 1 else ns.head?.getD 0)) else 0) ∧ (if decide (w = "wait") = true then (if c = true then ns.head?.getD 0 else (if 1 < ns.head?.getD 0 then 1 else ns.head?.getD 0)) else 0) ≤ ((1 : Nat) : Int) * (1000 * 5 ^ d)
    generalize ns.head?.getD 0 = v at hv
    generalize (5 : Int) ^ d = q at hp
    split <;> (try split) <;> (try split) <;> omega
  | .rep k b, d, h, g, hd => by
    unfold wrI at h
    unfold gdI at g
    obtain ⟨_, h2⟩ := (Bool.and_eq_true _ _).mp h
    obtain ⟨g1, g2⟩ := (Bool.and_eq_true _ _).mp g
    obtain ⟨g3, g4⟩ := (Bool.and_eq_true _ _).mp g1
    have g3 := of_decide_eq_true g3
    have g4 := of_decide_eq_true g4
    obtain ⟨q, rfl⟩ : ∃ q, d = q + 1 := ⟨d - 1, by have : dpL b + 1 ≤ d := hd; omega⟩
    obtain ⟨a1, a2⟩ := psL_bd c b (d := q) h2 g2 (Nat.le_of_succ_le_succ hd)
    show 0 ≤ k * psL c b ∧ k * psL c b ≤ ((lnL b + 2 : Nat) : Int) * (1000 * 5 ^ (q + 1))
    have e1 : k * psL c b ≤ 5 * psL c b := Int.mul_le_mul_of_nonneg_right g4 a1
    have hp : (0 : Int) ≤ 1000 * 5 ^ q := Int.mul_nonneg (by decide) (by exact_mod_cast Nat.zero_le _)
    refine ⟨Int.mul_nonneg g3 a1, ?_⟩
    have e2 : (1000 : Int) * 5 ^ (q + 1) = 5 * (1000 * 5 ^ q) := by rw [Int.pow_succ]; omega
    rw [e2]
    generalize (1000 : Int) * 5 ^ q = z at a2 hp
    have e3 : ((lnL b + 2 : Nat) : Int) * (5 * z) = 5 * ((lnL b : Int) * z) + 2 * (5 * z) := by
      rw [Int.natCast_add, Int.add_mul, ← Int.mul_assoc, Int.mul_comm (lnL b : Int) 5, Int.mul_assoc]
      rfl
    rw [e3]
    omega
  | .fore b, d, _, _, _ => by
    show (0 : Int) ≤ 0 ∧ (0 : Int) ≤ ((lnL b + 2 : Nat) : Int) * (1000 * 5 ^ d)
    exact ⟨Int.le_refl _, Int.mul_nonneg (by exact_mod_cast Nat.zero_le _) (Int.mul_nonneg (by decide) (by exact_mod_cast Nat.zero_le _))⟩
theorem psL_bd (c : Bool) : ∀ (is : List Ins) {d : Nat}, wrIs is = true → gdL is = true → dpL is ≤ d → 0 ≤ psL c is ∧ psL c is ≤ (lnL is : Int) * (1000 * 5 ^ d)
  | [], d, _, _, _ => by
    show (0 : Int) ≤ 0 ∧ (0 : Int) ≤ ((0 : Nat) : Int) * (1000 * 5 ^ d)
    simp
  | i :: is, d, h, g, hd => by
    unfold wrIs at h
    unfold gdL at g
    obtain ⟨h1, h2⟩ := (Bool.and_eq_true _ _).mp h
    obtain ⟨g1, g2⟩ := (Bool.and_eq_true _ _).mp g
    have hd' : max (dpI i) (dpL is) ≤ d := hd
    obtain ⟨a1, a2⟩ := psI_bd c i (d := d) h1 g1 (by omega)
    obtain ⟨b1, b2⟩ := psL_bd c is (d := d) h2 g2 (by omega)
    show 0 ≤ psI c i + psL c is ∧ psI c i + psL c is ≤ ((lnI i + lnL is : Nat) : Int) * (1000 * 5 ^ d)
    rw [Int.natCast_add, Int.add_mul]
    omega
end
mutual
def coI (c : Bool) : Ins → Int
  | .op w _ => if decide (w ∈ (["wait", "put", "get", "pass"] : List Str)) = true then 2 else (if decide (w = "take") = true then 4 else 1)
  | .rep k b => k * coL c b
  | .fore b => (1 + 200 / (if psL c b > 1 then psL c b else 1)) * coL c b
def coL (c : Bool) : List Ins → Int
  | [] => 1
  | i :: is => coI c i + coL c is
end
theorem coL_take (c : Bool) {is : List Ins} {i : Nat} (h : i < is.length) : coL c (is.take (i + 1)) = coL c (is.take i) + coI c is[i] := by
  induction is generalizing i with
  | nil => simp at h
  | cons x is ih =>
    cases i with
    | zero => show coI c x + 1 = 1 + coI c x; omega
    | succ i =>
      have h2 : i < is.length := Nat.lt_of_succ_lt_succ h
      show coI c x + coL c (is.take (i + 1)) = (coI c x + coL c (is.take i)) + coI c is[i]
      rw [ih h2]
      omega
def d_law_cost (n : Nat) : DSp := fun ys m F _ => ∃ is c, ys = [.d (scrD is), .d (.bool c)] ∧ dpL is ≤ n ∧ gdL is = true ∧ wrIs is = true ∧ lnL is ≤ 1000 ∧ ∀ m', Mle m m' → F (.d (.int (coL c is))) m'
def d_law_costP (n : Nat) : DSp := fun ys m F P => ∃ k, n = k + 1 ∧ d_law_cost k ys m F P
theorem ok_law_cost {f : Addr} {fd : FuncData} (F : Fun K "_law_cost" "_law_cost" s_law_cost f fd) (T : Txt K mg) {n a : Nat} (hn : n ≤ 3) {f1 f2 : Addr} {fd1 fd2 : FuncData} (ha : 5 ≤ a) (G_law_cost : GF P w K mg base "_law_cost" a f1 fd1 ["_law_script_here", "_law_calm"] (d_law_costP n)) (G_law_pass_time : GF P w K mg base "_law_pass_time" a f2 fd2 ["_law_body_here", "_law_calm"] (d_law_pass_time 3)) : FnD P w K mg base (a+1) f fd ["_law_script_here", "_law_calm"] (d_law_cost n) := by
  refine Dl.Fun.dok F sc_law_cost _ (fun cdv A outer s H E B hp =>
      (dss_cons (ds_set (i := 2) sc_law_cost.nd rfl (by first | exact Or.inl rfl | exact Or.inr rfl) (de_int))
      (dss_cons (ds_for hp rfl (di_seq (de_var (pv 0))) (dg_name (i := 3) sc_law_cost.nd rfl (by first | exact Or.inl rfl | exact Or.inr rfl))
      (dss_one (ds_if (dt_cmp (opd_eq (Dl.Room.u64 B.hr)) (de_ix (de_var (pv 3)) (de_int) (by intro _ _; rfl)) (de_str) (nomark _))
      (dss_one (ds_set (i := 2) sc_law_cost.nd rfl (by first | exact Or.inl rfl | exact Or.inr rfl) (de_op opd_add (de_var (pv 2)) (de_op opd_mul (de_ix (de_var (pv 3)) (de_int) (by intro _ _; rfl)) (de_gf G_law_cost B.hr B.gd B.tk rfl (da_cons (de_ix (de_var (pv 3)) (de_int) (by intro _ _; rfl)) (da_cons (de_var (pv 1)) da_nil)) (hk := by omega))))))
      (dss_one (ds_if (dt_cmp (opd_eq (Dl.Room.u64 B.hr)) (de_ix (de_var (pv 3)) (de_int) (by intro _ _; rfl)) (de_str) (nomark _))
      (dss_cons (ds_set (i := 4) sc_law_cost.nd rfl (by first | exact Or.inl rfl | exact Or.inr rfl) (de_op opd_add (de_int) (de_op opd_fdiv (de_int) (de_cb (cd_max2 rfl) rfl T.b_max boot_max (da_cons (de_int) (da_cons (de_gf G_law_pass_time B.hr B.gd B.tk rfl (da_cons (de_ix (de_var (pv 3)) (de_int) (by intro _ _; rfl)) (da_cons (de_var (pv 1)) da_nil)) (hk := by omega)) da_nil))))))
      (dss_one (ds_set (i := 2) sc_law_cost.nd rfl (by first | exact Or.inl rfl | exact Or.inr rfl) (de_op opd_add (de_var (pv 2)) (de_op opd_mul (de_var (pv 4)) (de_gf G_law_cost B.hr B.gd B.tk rfl (da_cons (de_ix (de_var (pv 3)) (de_int) (by intro _ _; rfl)) (da_cons (de_var (pv 1)) da_nil)) (hk := by omega)))))))
      (dss_one (ds_if (dt_cmp opd_in (de_ix (de_var (pv 3)) (de_int) (by intro _ _; rfl)) (de_tup (da_cons (de_str) (da_cons (de_str) (da_cons (de_str) (da_cons (de_str) da_nil))))) (by rfl))
      (dss_one (ds_set (i := 2) sc_law_cost.nd rfl (by first | exact Or.inl rfl | exact Or.inr rfl) (de_op opd_add (de_var (pv 2)) (de_int))))
      (dss_one (ds_set (i := 2) sc_law_cost.nd rfl (by first | exact Or.inl rfl | exact Or.inr rfl) (de_op opd_add (de_var (pv 2)) (de_if (dt_cmp (opd_eq (Dl.Room.u64 B.hr)) (de_ix (de_var (pv 3)) (de_int) (by intro _ _; rfl)) (de_str) (nomark _)) (de_int) (de_int))))))))))))
      (dss_one (ds_ret (de_var (pv 2))))))) (fun ys m F P h => ?_)
  obtain ⟨is, c, rfl, hd, hg, hw, hln, h⟩ := h
  refine ⟨rfl, _, rfl, (is.map insD).map Y.d, rfl, ?_⟩
  refine ⟨fun i rs m' => ∃ t o3 o4, rs = [some (.d (scrD is)), some (.d (.bool c)), some (.d (.int t)), o3, o4] ∧ coL c is = t + coL c (is.drop i) - 1 ∧ Mle m m', ⟨1, _, _, rfl, by rw [List.drop_zero]; omega, Mle.refl⟩, ?_⟩
  rintro i _ m1 hi ⟨t, o3, o4, rfl, hu, hm⟩
  refine ⟨fun _ e => (nomatch e), fun hlt => ?_, fun he => ?_⟩
  case refine_2 =>
    have he' : i = ((is.map insD).map Y.d).length := he
    rw [List.length_map, List.length_map] at he'
    rw [he', List.drop_length] at hu
    refine ⟨_, rfl, ?_⟩
    have hu' : coL c is = t := by have e0 : coL c [] = 1 := rfl; omega
    rw [← hu']
    exact h m1 hm
  have hlt' : i < is.length := by
    have h2 : i < ((is.map insD).map Y.d).length := hlt
    rwa [List.length_map, List.length_map] at h2
  have e1 : is[i]? = some is[i] := List.getElem?_eq_getElem hlt'
  have hmem := List.getElem_mem hlt'
  have hgi : gdI is[i] = true := List.all_eq_true.mp (by rw [← gdL_all]; exact hg) _ hmem
  have hwi : wrI is[i] = true := List.all_eq_true.mp (by rw [← wrIs_all]; exact hw) _ hmem
  have hdi : dpI is[i] ≤ n := Nat.le_trans (dpL_mem hmem) hd
  have hni : lnI is[i] ≤ 1000 := Nat.le_trans (lnL_mem hmem) hln
  rw [drop_at hlt'] at hu
  have hu2 : coL c is = t + (coI c is[i] + coL c (is.drop (i + 1))) - 1 := hu
  clear hu
  refine ⟨.d (insD is[i]), by rw [List.getElem?_map, List.getElem?_map, e1]; rfl, ?_⟩
  generalize is[i] = ii at hgi hwi hdi hni hu2
  cases ii with
  | op x ns =>
    obtain ⟨g1, g2⟩ := (Bool.and_eq_true _ _).mp hgi
    have nr : decide (x = "repeat") = false := decide_eq_false (op_ne g1)
    have nf : decide (x = "forever") = false := decide_eq_false (op_nf g1)
    refine ⟨_, rfl, 0, _, .d (.str x), rfl, rfl, at_zero, _, rfl, iteE nr ?_⟩
    refine ⟨_, rfl, 0, _, .d (.str x), rfl, rfl, at_zero, _, rfl, iteE nf ?_⟩
    have hin : inD (.str x) (List.map PyData.str ["wait", "put", "get", "pass"]) = decide (x ∈ (["wait", "put", "get", "pass"] : List Str)) := inD_str
    refine ⟨_, rfl, 0, _, .d (.str x), rfl, rfl, at_zero, len4 _ _ _ _, .str x, [.str "wait", .str "put", .str "get", .str "pass"], rfl, rfl, rfl, rfl, _, rfl, iteB (fun c1 => ?_) (fun c1 => ?_)⟩
    · have c1 := hin.symm.trans c1
      have et : coI c (.op x ns) = 2 := by show (if _ then _ else _) = _; rw [if_pos c1]
      exact ⟨_, rfl, t + 2, _, _, rfl, by omega, hm⟩
    · have c1 := hin.symm.trans c1
      refine ⟨_, rfl, ?_⟩
      refine ⟨_, rfl, 0, _, .d (.str x), rfl, rfl, at_zero, _, rfl, iteB (fun c2 => ?_) (fun c2 => ?_)⟩
      · have et : coI c (.op x ns) = 4 := by show (if _ then _ else _) = _; rw [c1, if_neg Bool.false_ne_true, if_pos c2]
        exact ⟨t + 4, _, _, rfl, by omega, hm⟩
      · have et : coI c (.op x ns) = 1 := by show (if _ then _ else _) = _; rw [c1, if_neg Bool.false_ne_true, c2, if_neg Bool.false_ne_true]
        exact ⟨t + 1, _, _, rfl, by omega, hm⟩
  | rep k b =>
    obtain ⟨s1, s2⟩ := (Bool.and_eq_true _ _).mp hgi
    obtain ⟨s3, s4⟩ := (Bool.and_eq_true _ _).mp s1
    have s3 := of_decide_eq_true s3
    have s4 := of_decide_eq_true s4
    have w2 := (wr_rep hwi).2
    obtain ⟨q, rfl⟩ : ∃ q, n = q + 1 := ⟨n - 1, by have : dpL b + 1 ≤ n := hdi; omega⟩
    have hdb : dpL b ≤ q := Nat.le_of_succ_le_succ hdi
    have lb : lnL b + 2 ≤ 1000 := hni
    rw [insD_rep]
    refine ⟨_, rfl, 0, _, .d (.str "repeat"), rfl, rfl, at_zero, _, rfl, iteI s_rr ?_⟩
    refine ⟨_, rfl, _, rfl, 1, _, .d (.int k), rfl, rfl, at_nat (n := 1) rfl, ?_⟩
    refine ⟨_, rfl, 2, _, .d (scrD b), rfl, rfl, at_nat (n := 2) rfl, _, rfl, q, rfl, b, c, rfl, hdb, s2, w2, by omega, fun m2 h2 => ?_⟩
    refine ⟨.inl ⟨by omega, by omega⟩, ?_⟩
    have et : coI c (.rep k b) = k * coL c b := rfl
    exact ⟨t + k * coL c b, _, _, rfl, by omega, hm.trans h2⟩
  | fore b =>
    have w2 : wrIs b = true := hwi
    obtain ⟨q, rfl⟩ : ∃ q, n = q + 1 := ⟨n - 1, by have : dpL b + 1 ≤ n := hdi; omega⟩
    have hdb : dpL b ≤ q := Nat.le_of_succ_le_succ hdi
    have lb : lnL b + 2 ≤ 1000 := hni
    have hb := psL_bd c b (d := 3) w2 hgi (by omega)
    have hb2 : psL c b ≤ 124875000 := by
      have : (lnL b : Int) ≤ 999 := by omega
      have e := Int.mul_le_mul_of_nonneg_right this (show (0 : Int) ≤ 1000 * 5 ^ 3 by decide)
      have e2 : (999 : Int) * (1000 * 5 ^ 3) = 124875000 := by decide
      omega
    rw [insD_fore]
    refine ⟨_, rfl, 0, _, .d (.str "forever"), rfl, rfl, at_zero, _, rfl, iteE s_wt.2 ?_⟩
    refine ⟨_, rfl, 0, _, .d (.str "forever"), rfl, rfl, at_zero, _, rfl, iteI (by decide +kernel) ?_⟩
    refine ⟨_, rfl, 1, _, .d (scrD b), rfl, rfl, at_nat (n := 1) rfl, _, rfl, b, c, rfl, by omega, hgi, fun m2 h2 => ?_⟩
    refine ⟨_, _, rfl, ?_⟩
    have hj : 0 < (if psL c b > 1 then psL c b else 1) ∧ (if psL c b > 1 then psL c b else 1) < 1073741824 := by split <;> omega
    refine ⟨hj, _, rfl, _, rfl, _, rfl, 1, _, .d (scrD b), rfl, rfl, at_nat (n := 1) rfl, _, rfl, q, rfl, b, c, rfl, hdb, hgi, w2, by omega, fun m3 h3 => ?_⟩
    have et : coI c (.fore b) = (1 + 200 / (if psL c b > 1 then psL c b else 1)) * coL c b := rfl
    rw [et] at hu2
    have hq : 0 ≤ 200 / (if psL c b > 1 then psL c b else 1) ∧ 200 / (if psL c b > 1 then psL c b else 1) ≤ 200 := ⟨Int.ediv_nonneg (by decide) (by omega), Int.ediv_le_self _ (by decide)⟩
    refine ⟨.inl ⟨by omega, by omega⟩, ?_⟩
    exact ⟨t + (1 + 200 / (if psL c b > 1 then psL c b else 1)) * coL c b, _, _, rfl, by omega, (hm.trans h2).trans h3⟩
abbrev s_law_fitted : Stmt := top 62
abbrev N_law_fitted : List Str := ["_law_scripts", "_law_room", "_law_found", "_law_k", "_law_calm", "_law_one"]
theorem sc_law_fitted : FnScope N_law_fitted ["_law_scripts", "_law_room"] (defScope s_law_fitted) := ⟨rfl, rfl, rfl, by decide +kernel, rfl, by decide +kernel, by decide +kernel⟩
/-- what is fitted -/
structure FitOk (s : List Ins) : Prop where
  dp : dpL s ≤ 3
  gd : gdL s = true
  wr : wrIs s = true
  ln : lnL s ≤ 1000
theorem FitOk.nil : FitOk [] := ⟨by decide, rfl, rfl, by decide⟩
def Fitted (ss ss' : List (List Ins)) : Prop := ss'.length = ss.length ∧ ∀ s ∈ ss', s ∈ ss ∨ s = []
theorem Fitted.fit {ss ss' : List (List Ins)} (h : Fitted ss ss') (hf : ∀ s ∈ ss, FitOk s) : ∀ s ∈ ss', FitOk s := fun s hs => by
  rcases h.2 s hs with h | rfl
  · exact hf s h
  · exact FitOk.nil
abbrev scrY (ss : List (List Ins)) : List Y := (ss.map scrD).map Y.d
theorem fm_some {α : Type} (f : α → PyData) : ∀ xs : List α, xs.filterMap (fun x => some (f x)) = xs.map f
  | [] => rfl
  | x :: xs => by rw [List.filterMap_cons, List.map_cons, fm_some f xs]
theorem lc_fit {ss : List (List Ins)} {m : Mu} {q : Addr} (h : m q = some (.lst (scrY ss))) : SqY m (.l q) ((ss.map scrD).map Y.d) := .inl h
def d_law_fitted : DSp := fun ys m F _ => ∃ (ss : List (List Ins)) (room : Int), ys = [.d (.list (ss.map scrD)), .d (.int room)] ∧ ss.length ≤ 10 ∧ (∀ s ∈ ss, FitOk s) ∧ ∀ ss' m', Fitted ss ss' → Mle m m' → F (.d (.tuple (ss'.map scrD))) m'
theorem ok_law_fitted {f : Addr} {fd : FuncData} (F : Fun K "_law_fitted" "_law_fitted" s_law_fitted f fd) (T : Txt K mg) {a : Nat} (b_any : mg "any" = none) {f1 f2 : Addr} {fd1 fd2 : FuncData} (G_law_has_rouse : GF P w K mg base "_law_has_rouse" a f1 fd1 ["_law_script_here"] (d_law_has_rouse 3)) (G_law_cost : GF P w K mg base "_law_cost" a f2 fd2 ["_law_script_here", "_law_calm"] (d_law_cost 3)) : FnD P w K mg base (a+1) f fd ["_law_scripts", "_law_room"] d_law_fitted := by
  refine Dl.Fun.dok F sc_law_fitted _ (fun cdv A outer s H E B hp =>
      (dss_cons (ds_par (i := 2) (j := 3) rfl sc_law_fitted.nd rfl rfl (by decide) rfl rfl (da_cons (de_cty cd_listM rfl T.b_list boot_list (da_cons (de_var (pv 0)) da_nil)) (da_cons (de_op opd_sub (de_cb cd_len rfl T.b_len boot_len (da_cons (de_var (pv 0)) da_nil)) (de_int)) da_nil)) rfl)
      (dss_cons (ds_set (i := 4) sc_law_fitted.nd rfl (by first | exact Or.inl rfl | exact Or.inr rfl) (de_not (de_cb (cd_any rfl) rfl b_any boot_any (da_cons (de_lc (fin := finD) finD_ok rfl sc_law_fitted.nd (di_seq (de_var (pv 2))) (blkOk_by (own := [("_law_one", 5)]) (N := N_law_fitted) (sc := defScope s_law_fitted) (by decide +kernel)) (fun _ _ _ _ _ => pg_name (i := 5) sc_law_fitted.nd rfl (by first | exact Or.inl rfl | exact Or.inr rfl)) (dgw_name (i := 5) (by decide)) (fun _ _ _ _ _ => dts_nil) (fun _ _ _ _ _ => de_gf G_law_has_rouse B.hr B.gd takes0 rfl (da_cons (de_var (pv 5)) da_nil) (hk := by omega))) da_nil))))
      (dss_cons (ds_while hp (DW.dt (dw_and (dt_cmp opd_ge (de_var (pv 3)) (de_int) (nomark _)) (dw_and1 (dt_cmp opd_gt (de_cb (cd_sum rfl) rfl T.b_sum boot_sum (da_cons (de_lc (fin := finD) finD_ok rfl sc_law_fitted.nd (di_seq (de_var (pv 2))) (blkOk_by (own := [("_law_one", 5)]) (N := N_law_fitted) (sc := defScope s_law_fitted) (by decide +kernel)) (fun _ _ _ _ _ => pg_name (i := 5) sc_law_fitted.nd rfl (by first | exact Or.inl rfl | exact Or.inr rfl)) (dgw_name (i := 5) (by decide)) (fun _ _ _ _ _ => dts_nil) (fun _ _ _ _ _ => de_gf G_law_cost B.hr B.gd takes0 rfl (da_cons (de_var (pv 5)) (da_cons (de_var (pv 4)) da_nil)) (hk := by omega))) da_nil)) (de_var (pv 1)) (nomark _)))))
      (dss_cons (ds_asg (de_tup da_nil) (dg_sub (W := W0) (de_var (pv 2)) (de_var (pv 3))))
      (dss_one (ds_set (i := 3) sc_law_fitted.nd rfl (by first | exact Or.inl rfl | exact Or.inr rfl) (de_op opd_sub (de_var (pv 3)) (de_int))))))
      (dss_one (ds_ret (de_cty cd_tuple rfl T.b_tuple boot_tuple (da_cons (de_var (pv 2)) da_nil)))))))) (fun ys m F P h => ?_)
  obtain ⟨ss, room, rfl, hl, hf, h⟩ := h
  refine ⟨rfl, ?_⟩
  refine ⟨_, rfl, _, (ss.map scrD).map Y.d, rfl, rfl, fun q hq => ?_⟩
  refine ⟨_, rfl, _, (ss.map scrD).map Y.d, rfl, .inr rfl, _, _, rfl, ?_⟩
  have hq1 : (mu m q (.lst (scrY ss))) q = some (.lst (scrY ss)) := mu_same
  have hm1 : Mle m (mu m q (.lst (scrY ss))) := Mle.new hq
  refine ⟨_, rfl, (ss.map scrD).map Y.d, .inl hq1, ?_⟩
  refine lc_typedO scrD (fun s => some (.bool (roL s))) (by omega) (fun p e => by cases e; rw [hq1]; exact Option.some_ne_none _) (fun s M hs hM C' N' hC hN => ?_) (fun m2 hm2 => ?_)
  · have f := hf s hs
    exact iteT ⟨_, rfl, s, rfl, f.dp, f.gd, fun m' hm' => hC _ _ rfl hm'⟩
  rw [fm_some]
  refine ⟨_, ss.map roL, rfl, by show List.map Y.d (List.map PyData.bool (List.map roL ss)) = List.map Y.d (List.map _ ss); rw [List.map_map, List.map_map, List.map_map]; rfl, _, rfl, ?_⟩
  generalize (!(ss.map roL).any id) = calm
  have hqm2 : m2 q = some (.lst (scrY ss)) := hm2 _ _ hq1
  refine ⟨fun n rs m' => ∃ ss' o5, rs = [some (.d (.list (ss.map scrD))), some (.d (.int room)), some (.l q), some (.d (.int ((n : Int) - 1))), some (.d (.bool calm)), o5] ∧ n ≤ ss.length ∧ m' q = some (.lst (scrY ss')) ∧ Fitted ss ss' ∧ Mle m m', ⟨ss.length, ss, _, by rw [List.length_map, List.length_map]; rfl, Nat.le_refl _, hqm2, ⟨rfl, fun s hs => .inl hs⟩, hm1.trans hm2⟩, ?_⟩
  rintro n _ m3 ⟨ss', o5, rfl, hn, hq3, hfi, hm3⟩
  have hl3 := hfi.1
  have hff := hfi.fit hf
  have done : ∀ m4, m4 q = some (.lst (scrY ss')) → Mle m m4 → F (.d (.tuple (ss'.map scrD))) m4 := fun m4 _ h4 => h ss' m4 hfi h4
  refine ⟨_, rfl, _, rfl, iteB (fun c1 => ?_) (fun c1 => ?_)⟩
  case refine_2 =>
    refine iteF ?_
    exact ⟨_, rfl, _, rfl, .inr ⟨_, hq3, mkT_l rfl (done m3 hq3 hm3)⟩⟩
  have c1 : 0 ≤ (n : Int) - 1 := of_decide_eq_true c1
  refine ⟨_, rfl, (ss'.map scrD).map Y.d, .inl hq3, ?_⟩
  refine lc_typedO scrD (fun s => some (.int (coL calm s))) (by omega) (fun p e => by cases e; rw [hq3]; exact Option.some_ne_none _) (fun s M hs hM C' N' hC hN => ?_) (fun m4 hm4 => ?_)
  · have f := hff s hs
    exact iteT ⟨_, rfl, _, rfl, s, calm, rfl, f.dp, f.gd, f.wr, f.ln, fun m' hm' => hC _ _ rfl hm'⟩
  rw [fm_some]
  have hq4 := hm4 _ _ hq3
  refine ⟨_, ss'.map (coL calm), rfl, by show List.map Y.d (List.map PyData.int (List.map (coL calm) ss')) = List.map Y.d (List.map _ ss'); rw [List.map_map, List.map_map, List.map_map]; rfl, _, rfl, _, rfl, iteB (fun c2 => ?_) (fun c2 => ?_)⟩
  case refine_2 =>
    exact ⟨_, rfl, _, rfl, .inr ⟨_, hq4, mkT_l rfl (done m4 hq4 (hm3.trans hm4))⟩⟩
  obtain ⟨u, rfl⟩ : ∃ u, n = u + 1 := ⟨n - 1, by omega⟩
  have hu : u < (scrY ss').length := by rw [List.length_map, List.length_map]; omega
  have eu : ((u + 1 : Nat) : Int) - 1 = (u : Int) := by omega
  refine ⟨len0, _, rfl, _, rfl, q, scrY ss', _, u, rfl, rfl, hq4, by rw [eu]; exact ix_nat hu, ?_⟩
  refine ⟨_, rfl, u, Nat.lt_succ_self u, ss'.set u [], _, by rw [← eu]; rfl, by omega, ?_, ⟨by rw [List.length_set]; exact hl3, fun s hs => ?_⟩, mle_wr (hm3.trans hm4) hq⟩
  · rw [mu_same]
    show _ = some (MO.lst (((ss'.set u []).map scrD).map Y.d))
    rw [List.map_set, List.map_set]
    rfl
  · rcases List.mem_or_eq_of_mem_set hs with hs | rfl
    · exact hfi.2 s hs
    · exact .inr rfl
abbrev s_law_store : Stmt := top 63
abbrev N_law_store : List Str := ["_law_pen_here", "_law_capacity", "_law_lap"]
theorem sc_law_store : FnScope N_law_store ["_law_pen_here"] (defScope s_law_store) := ⟨rfl, rfl, rfl, by decide +kernel, rfl, by decide +kernel, by decide +kernel⟩
def StoOk (q : Int × List Int) : Prop := 1 ≤ q.1 ∧ q.1 ≤ 4 ∧ (q.2.length : Int) ≤ q.1 ∧ ∀ v ∈ q.2, 0 ≤ v ∧ v ≤ 99
def d_law_store : DSp := fun ys m F _ => ∃ p l, ys = [.l p] ∧ PenL l ∧ m p = some (.lst l) ∧ ∀ q l' m', StoOk q → PenL l' → Mle (mu m p (.lst l')) m' → F (.d (stoD q)) m'
theorem ok_law_store {f : Addr} {fd : FuncData} (F : Fun K "_law_store" "_law_store" s_law_store f fd) (T : Txt K mg) {f1 : Addr} {fd1 : FuncData} (G_law_draw : GF P w K mg base "_law_draw" 1 f1 fd1 ["_law_pen_here", "_law_many"] d_law_draw) : FnD P w K mg base 2 f fd ["_law_pen_here"] d_law_store := by
  refine Dl.Fun.dok F sc_law_store _ (fun cdv A outer s H E B hp =>
      (dss_cons (ds_set (i := 1) sc_law_store.nd rfl (by first | exact Or.inl rfl | exact Or.inr rfl) (de_op opd_add (de_int) (de_gf G_law_draw B.hr B.gd B.tk rfl (da_cons (de_var (pv 0)) (da_cons (de_int) da_nil)))))
      (dss_one (ds_ret (de_tup (da_cons (de_var (pv 1)) (da_cons (de_cty cd_tuple rfl T.b_tuple boot_tuple (da_cons (de_lc (fin := finD) finD_ok rfl sc_law_store.nd (di_range1 rfl T.b_range (da_cons (de_gf G_law_draw B.hr B.gd B.tk rfl (da_cons (de_var (pv 0)) (da_cons (de_op opd_add (de_var (pv 1)) (de_int)) da_nil))) da_nil)) (blkOk_by (own := [("_law_lap", 2)]) (N := N_law_store) (sc := defScope s_law_store) (by decide +kernel)) (fun _ _ _ _ _ => pg_name (i := 2) sc_law_store.nd rfl (by first | exact Or.inl rfl | exact Or.inr rfl)) (dgw_name (i := 2) (by decide)) (fun _ _ _ _ _ => dts_nil) (fun _ _ _ _ _ => de_gf G_law_draw B.hr B.gd takes0 rfl (da_cons (de_var (pv 0)) (da_cons (de_int) da_nil)))) da_nil)) da_nil))))))) (fun ys m F P h => ?_)
  obtain ⟨p, l, rfl, hl, hp, h⟩ := h
  refine ⟨rfl, _, rfl, p, 4, l, rfl, by decide, by decide, hl, hp, fun c l1 m1 c0 c1 hl1 hm1 => ?_⟩
  refine ⟨_, rfl, _, rfl, _, rfl, p, 1 + c + 1, l1, rfl, by omega, by omega, hl1, hm1 _ _ mu_same, fun n l2 m2 n0 n1 hl2 hm2 => ?_⟩
  obtain ⟨n, rfl⟩ := Int.eq_ofNat_of_zero_le n0
  refine ⟨n, rfl, by omega, by omega, ?_⟩
  refine lc_pen PyData.int (fun xs => ∀ v ∈ xs, 0 ≤ v ∧ v ≤ 99) (by omega) hl2 (hm2 _ _ mu_same) (fun v hv => by cases hv) (fun xs l3 M hx hA hl3 hM hk C hC => ?_) (fun xs l3 m3 hA hn hl3 hm3 => ?_)
  · refine ⟨_, rfl, p, 100, l3, rfl, by decide, by decide, hl3, hM, fun v l4 m4 v0 v1 hl4 hm4 => ?_⟩
    refine hC v l4 m4 (fun w hw => ?_) hl4 hm4
    rcases List.mem_append.mp hw with hw | hw
    · exact hA w hw
    · rw [List.mem_singleton.mp hw]; omega
  exact ⟨_, rfl, .inr ⟨_, rfl, mkT_l (ds := xs.map PyData.int) rfl ⟨by show 2 ≤ 10000; decide, h (1 + c, xs) l3 m3 ⟨by show 1 ≤ 1 + c; omega, by show 1 + c ≤ 4; omega, by show (xs.length : Int) ≤ 1 + c; omega, hA⟩ hl3 (pen_mle (pen_mle hm1 hm2) hm3)⟩⟩⟩
abbrev s_law_model : Stmt := top 64
abbrev N_law_model : List Str := ["_law_pen_here", "_law_most", "_law_room", "_law_processes", "_law_kinds", "_law_resources", "_law_stores", "_law_gates", "_law_counts", "_law_scripts", "_law_lap"]
theorem sc_law_model : FnScope N_law_model ["_law_pen_here", "_law_most", "_law_room"] (defScope s_law_model) := ⟨rfl, rfl, rfl, by decide +kernel, rfl, by decide +kernel, by decide +kernel⟩
def ResOk (q : Str × Int) : Prop := q.1 ∈ discL ∧ 1 ≤ q.2 ∧ q.2 ≤ 3
/-- what _law_model draws -/
structure ModW (M : Mod) (n : Nat) : Prop where
  r : M.res.length ≤ 4 ∧ ∀ q ∈ M.res, ResOk q
  s : M.sto.length ≤ 3 ∧ ∀ q ∈ M.sto, StoOk q
  g : M.gat.length ≤ 3 ∧ ∀ q ∈ M.gat, q ∈ gateL
  c : 1 ≤ M.scr.length ∧ M.scr.length ≤ n ∧ ∀ q ∈ M.scr, ScrW (limsOf M) q
theorem ScrW.fit {L : Lims} {s : List Ins} (h : ScrW L s) : FitOk s := ⟨(okScr_ok h.v.ok).1, (okScr_ok h.v.ok).2, h.wr, Nat.le_trans h.ln (by decide)⟩
theorem ScrW.nil (L : Lims) : ScrW L [] := ScrW.pc (n := 0) Pc.nil (by decide)
theorem all_snoc {α : Type} {p : α → Prop} {xs : List α} {x : α} (h : ∀ y ∈ xs, p y) (hx : p x) : ∀ y ∈ xs ++ [x], p y := fun y hy => by
  rcases List.mem_append.mp hy with hy | hy
  · exact h y hy
  · rw [List.mem_singleton.mp hy]; exact hx
theorem tup4D {a b c d : PyData} : [a, b, c, d].length ≤ 10000 := by show 4 ≤ 10000; decide
def d_law_model : DSp := fun ys m F _ => ∃ (p : Addr) (l : List Y) (n : Nat) (room : Int), ys = [.l p, .d (.int (n : Int)), .d (.int room)] ∧ 1 ≤ n ∧ n ≤ 6 ∧ PenL l ∧ m p = some (.lst l) ∧ ∀ M l' m', ModW M n → PenL l' → Mle (mu m p (.lst l')) m' → F (.d (modD M)) m'
theorem ok_law_model {f : Addr} {fd : FuncData} (F : Fun K "_law_model" "_law_model" s_law_model f fd) (T : Txt K mg) {a : Nat} (ha : 5 ≤ a) {f1 f2 f3 f4 f5 : Addr} {fd1 fd2 fd3 fd4 fd5 : FuncData} (G_law_draw : GF P w K mg base "_law_draw" 1 f1 fd1 ["_law_pen_here", "_law_many"] d_law_draw) (G_law_pick : GF P w K mg base "_law_pick" 2 f2 fd2 ["_law_pen_here", "_law_things"] d_law_pick) (G_law_store : GF P w K mg base "_law_store" 2 f4 fd4 ["_law_pen_here"] d_law_store) (G_law_script : GF P w K mg base "_law_script" 5 f3 fd3 ["_law_pen_here", "_law_counts"] d_law_script) (G_law_fitted : GF P w K mg base "_law_fitted" a f5 fd5 ["_law_scripts", "_law_room"] d_law_fitted) : FnD P w K mg base (a+1) f fd ["_law_pen_here", "_law_most", "_law_room"] d_law_model := by
  refine Dl.Fun.dok F sc_law_model _ (fun cdv A outer s H E B hp =>
      (dss_cons (ds_set (i := 3) sc_law_model.nd rfl (by first | exact Or.inl rfl | exact Or.inr rfl) (de_op opd_add (de_int) (de_gf G_law_draw B.hr B.gd B.tk rfl (da_cons (de_var (pv 0)) (da_cons (de_var (pv 1)) da_nil)) (hk := by omega))))
      (dss_cons (ds_set (i := 4) sc_law_model.nd rfl (by first | exact Or.inl rfl | exact Or.inr rfl) (de_lst (da_cons (de_str) (da_cons (de_str) (da_cons (de_str) da_nil)))))
      (dss_cons (ds_setLc (i := 5) (fin := finD) finD_ok rfl sc_law_model.nd rfl rfl (sw_true rfl rfl rfl (by decide +kernel)) (di_range1 rfl T.b_range (da_cons (de_gf G_law_draw B.hr B.gd B.tk rfl (da_cons (de_var (pv 0)) (da_cons (de_int) da_nil)) (hk := by omega)) da_nil)) (blkOk_by (own := [("_law_lap", 10)]) (N := N_law_model) (sc := defScope s_law_model) (by decide +kernel)) (fun _ _ _ _ _ => pg_name (i := 10) sc_law_model.nd rfl (by first | exact Or.inl rfl | exact Or.inr rfl)) (dgw_name (i := 10) (by decide)) (fun _ _ _ _ _ => dts_nil) (fun _ _ _ _ _ => de_tup (da_cons (de_gf G_law_pick B.hr B.gd takes0 rfl (da_cons (de_var (pv 0)) (da_cons (de_var (pv 4)) da_nil)) (hk := by omega)) (da_cons (de_op opd_add (de_int) (de_gf G_law_draw B.hr B.gd takes0 rfl (da_cons (de_var (pv 0)) (da_cons (de_int) da_nil)) (hk := by omega))) da_nil))))
      (dss_cons (ds_setLc (i := 6) (fin := finD) finD_ok rfl sc_law_model.nd rfl rfl (sw_true rfl rfl rfl (by decide +kernel)) (di_range1 rfl T.b_range (da_cons (de_gf G_law_draw B.hr B.gd B.tk rfl (da_cons (de_var (pv 0)) (da_cons (de_int) da_nil)) (hk := by omega)) da_nil)) (blkOk_by (own := [("_law_lap", 10)]) (N := N_law_model) (sc := defScope s_law_model) (by decide +kernel)) (fun _ _ _ _ _ => pg_name (i := 10) sc_law_model.nd rfl (by first | exact Or.inl rfl | exact Or.inr rfl)) (dgw_name (i := 10) (by decide)) (fun _ _ _ _ _ => dts_nil) (fun _ _ _ _ _ => de_gf G_law_store B.hr B.gd takes0 rfl (da_cons (de_var (pv 0)) da_nil) (hk := by omega)))
      (dss_cons (ds_setLc (i := 7) (fin := finD) finD_ok rfl sc_law_model.nd rfl rfl (sw_true rfl rfl rfl (by decide +kernel)) (di_range1 rfl T.b_range (da_cons (de_gf G_law_draw B.hr B.gd B.tk rfl (da_cons (de_var (pv 0)) (da_cons (de_int) da_nil)) (hk := by omega)) da_nil)) (blkOk_by (own := [("_law_lap", 10)]) (N := N_law_model) (sc := defScope s_law_model) (by decide +kernel)) (fun _ _ _ _ _ => pg_name (i := 10) sc_law_model.nd rfl (by first | exact Or.inl rfl | exact Or.inr rfl)) (dgw_name (i := 10) (by decide)) (fun _ _ _ _ _ => dts_nil) (fun _ _ _ _ _ => de_gf G_law_pick B.hr B.gd takes0 rfl (da_cons (de_var (pv 0)) (da_cons (de_lst (da_cons (de_str) (da_cons (de_str) da_nil))) da_nil)) (hk := by omega)))
      (dss_cons (ds_set (i := 8) sc_law_model.nd rfl (by first | exact Or.inl rfl | exact Or.inr rfl) (de_tup (da_cons (de_cb cd_len rfl T.b_len boot_len (da_cons (de_var (pv 5)) da_nil)) (da_cons (de_cb cd_len rfl T.b_len boot_len (da_cons (de_var (pv 6)) da_nil)) (da_cons (de_cb cd_len rfl T.b_len boot_len (da_cons (de_var (pv 7)) da_nil)) (da_cons (de_var (pv 3)) da_nil))))))
      (dss_cons (ds_set (i := 9) sc_law_model.nd rfl (by first | exact Or.inl rfl | exact Or.inr rfl) (de_gf G_law_fitted B.hr B.gd B.tk rfl (da_cons (de_lc (fin := finD) finD_ok rfl sc_law_model.nd (di_range1 rfl T.b_range (da_cons (de_var (pv 3)) da_nil)) (blkOk_by (own := [("_law_lap", 10)]) (N := N_law_model) (sc := defScope s_law_model) (by decide +kernel)) (fun _ _ _ _ _ => pg_name (i := 10) sc_law_model.nd rfl (by first | exact Or.inl rfl | exact Or.inr rfl)) (dgw_name (i := 10) (by decide)) (fun _ _ _ _ _ => dts_nil) (fun _ _ _ _ _ => de_gf G_law_script B.hr B.gd takes0 rfl (da_cons (de_var (pv 0)) (da_cons (de_var (pv 8)) da_nil)) (hk := by omega))) (da_cons (de_var (pv 2)) da_nil)) (hk := by omega)))
      (dss_one (ds_ret (de_tup (da_cons (de_cty cd_tuple rfl T.b_tuple boot_tuple (da_cons (de_var (pv 5)) da_nil)) (da_cons (de_cty cd_tuple rfl T.b_tuple boot_tuple (da_cons (de_var (pv 6)) da_nil)) (da_cons (de_cty cd_tuple rfl T.b_tuple boot_tuple (da_cons (de_var (pv 7)) da_nil)) (da_cons (de_var (pv 9)) da_nil))))))))))))))) (fun ys m F P h => ?_)
  obtain ⟨p, l, n, room, rfl, n1, n6, hl, hp, h⟩ := h
  refine ⟨rfl, _, rfl, _, rfl, p, n, l, rfl, by omega, by omega, hl, hp, fun c l1 m1 c0 c1 hl1 hm1 => ?_⟩
  obtain ⟨c, rfl⟩ := Int.eq_ofNat_of_zero_le c0
  refine ⟨len3 _ _ _, [.str "fifo", .str "rank", .str "preempt"], rfl, ?_⟩
  refine ⟨_, rfl, p, 5, l1, rfl, by decide, by decide, hl1, hm1 _ _ mu_same, fun k l2 m2 k0 k1 hl2 hm2 => ?_⟩
  obtain ⟨k, rfl⟩ := Int.eq_ofNat_of_zero_le k0
  refine ⟨k, rfl, by omega, by omega, ?_⟩
  refine lc_pen resD (fun xs => ∀ q ∈ xs, ResOk q) (by omega) hl2 (hm2 _ _ mu_same) (fun v hv => by cases hv) (fun xs l3 M hx hA hl3 hM hk C hC => ?_) (fun R l3 m3 hR hRn hl3 hm3 => ?_)
  · refine ⟨_, rfl, _, rfl, p, [.str "fifo", .str "rank", .str "preempt"], l3, rfl, by decide, by decide, hl3, hM, fun d l4 m4 hd hl4 hm4 => ?_⟩
    obtain ⟨kd, rfl, hkd⟩ : ∃ kd : Str, d = .str kd ∧ kd ∈ discL := by
      simp only [List.mem_cons, List.not_mem_nil, or_false] at hd
      rcases hd with rfl | rfl | rfl
      · exact ⟨_, rfl, by simp [discL]⟩
      · exact ⟨_, rfl, by simp [discL]⟩
      · exact ⟨_, rfl, by simp [discL]⟩
    refine ⟨_, rfl, p, 3, l4, rfl, by decide, by decide, hl4, hm4 _ _ mu_same, fun u l5 m5 u0 u1 hl5 hm5 => ⟨len2 _ _, ?_⟩⟩
    exact hC (kd, 1 + u) l5 m5 (all_snoc hA ⟨hkd, by show 1 ≤ 1 + u; omega, by show 1 + u ≤ 3; omega⟩) hl5 (pen_mle hm4 hm5)
  have hmR := pen_mle (pen_mle hm1 hm2) hm3
  refine ⟨_, rfl, p, 4, l3, rfl, by decide, by decide, hl3, hm3 _ _ mu_same, fun k' l4 m4 k'0 k'1 hl4 hm4 => ?_⟩
  obtain ⟨k', rfl⟩ := Int.eq_ofNat_of_zero_le k'0
  refine ⟨k', rfl, by omega, by omega, ?_⟩
  refine lc_pen stoD (fun xs => ∀ q ∈ xs, StoOk q) (by omega) hl4 (hm4 _ _ mu_same) (fun v hv => by cases hv) (fun xs l5 M hx hA hl5 hM hk C hC => ?_) (fun S l5 m5 hS hSn hl5 hm5 => ?_)
  · exact ⟨_, rfl, p, l5, rfl, hl5, hM, fun q l6 m6 hq hl6 hm6 => hC q l6 m6 (all_snoc hA hq) hl6 hm6⟩
  have hmS := pen_mle (pen_mle hmR hm4) hm5
  refine ⟨_, rfl, p, 4, l5, rfl, by decide, by decide, hl5, hm5 _ _ mu_same, fun k2 l6 m6 k20 k21 hl6 hm6 => ?_⟩
  obtain ⟨k2, rfl⟩ := Int.eq_ofNat_of_zero_le k20
  refine ⟨k2, rfl, by omega, by omega, ?_⟩
  refine lc_pen PyData.str (fun xs => ∀ q ∈ xs, q ∈ gateL) (by omega) hl6 (hm6 _ _ mu_same) (fun v hv => by cases hv) (fun xs l7 M hx hA hl7 hM hk C hC => ?_) (fun G l7 m7 hG hGn hl7 hm7 => ?_)
  · refine ⟨_, rfl, by show 2 ≤ 10000; decide, [.str "open", .str "shut"], rfl, p, _, l7, rfl, by decide, by decide, hl7, hM, fun d l8 m8 hd hl8 hm8 => ?_⟩
    obtain ⟨g, rfl, hg⟩ : ∃ g : Str, d = .str g ∧ g ∈ gateL := by
      simp only [List.mem_cons, List.not_mem_nil, or_false] at hd
      rcases hd with rfl | rfl
      · exact ⟨_, rfl, by simp [gateL]⟩
      · exact ⟨_, rfl, by simp [gateL]⟩
    exact hC g l8 m8 (all_snoc hA hg) hl8 hm8
  have hmG := pen_mle (pen_mle hmS hm6) hm7
  refine ⟨_, rfl, _, (R.map resD).map Y.d, rfl, .inr rfl, _, rfl, _, (S.map stoD).map Y.d, rfl, .inr rfl, _, rfl, _, (G.map PyData.str).map Y.d, rfl, .inr rfl, _, rfl, len4 _ _ _ _, ?_⟩
  have eC : [Y.d (.int (((R.map resD).map Y.d).length : Nat)), Y.d (.int (((S.map stoD).map Y.d).length : Nat)), Y.d (.int (((G.map PyData.str).map Y.d).length : Nat)), Y.d (.int (1 + (c : Int)))] = (cntD ⟨R.length, S.length, G.length, 1 + (c : Int)⟩).map Y.d := by
    rw [List.length_map, List.length_map, List.length_map, List.length_map, List.length_map, List.length_map]
    rfl
  generalize hL : (⟨R.length, S.length, G.length, 1 + (c : Int)⟩ : Lims) = L at eC
  have hLO : LimOk L := by
    rw [← hL]
    exact ⟨⟨by show (0 : Int) ≤ R.length; omega, by show (R.length : Int) ≤ 100; omega⟩, ⟨by show (0 : Int) ≤ S.length; omega, by show (S.length : Int) ≤ 100; omega⟩, ⟨by show (0 : Int) ≤ G.length; omega, by show (G.length : Int) ≤ 100; omega⟩, ⟨by show (1 : Int) ≤ 1 + c; omega, by show 1 + (c : Int) ≤ 100; omega⟩⟩
  refine mkT_l (ds := cntD L) eC ⟨_, rfl, _, rfl, by omega, by omega, ?_⟩
  refine lc_pen scrD (fun xs => ∀ s ∈ xs, ScrW L s) (by omega) hl7 (hm7 _ _ mu_same) (fun v hv => by cases hv) (fun xs l8 M hx hA hl8 hM hk C hC => ?_) (fun ss l8 m8 hss hsn hl8 hm8 => ?_)
  · exact ⟨_, rfl, _, rfl, p, l8, L, rfl, hLO, hl8, hM, fun q l9 m9 hq hl9 hm9 => hC q l9 m9 (all_snoc hA hq) hl9 hm9⟩
  have hmF := pen_mle hmG hm8
  refine ⟨_, rfl, ss, room, rfl, by omega, fun s hs => (hss s hs).fit, fun ss' m9 hfi hm9 => ?_⟩
  have hn' : ss'.length = (1 + (c : Int)).toNat := by rw [hfi.1, hsn]
  have eM : limsOf ⟨R, S, G, ss'⟩ = L := by
    rw [← hL]
    show (⟨_, _, _, _⟩ : Lims) = ⟨_, _, _, _⟩
    rw [show ((ss'.length : Nat) : Int) = 1 + (c : Int) by omega]
  refine ⟨_, rfl, _, rfl, .inr ⟨_, rfl, mkT_l rfl ⟨_, rfl, _, rfl, .inr ⟨_, rfl, mkT_l rfl ⟨_, rfl, _, rfl, .inr ⟨_, rfl, mkT_l rfl ⟨_, rfl, by show 4 ≤ 10000; decide, ?_⟩⟩⟩⟩⟩⟩⟩
  refine h ⟨R, S, G, ss'⟩ l8 m9 ⟨⟨by show R.length ≤ 4; omega, hR⟩, ⟨by show S.length ≤ 3; omega, hS⟩, ⟨by show G.length ≤ 3; omega, hG⟩, ⟨by show 1 ≤ ss'.length; omega, by show ss'.length ≤ n; omega, fun s hs => ?_⟩⟩ hl8 (hmF.trans hm9)
  rw [eM]
  rcases hfi.2 s hs with h1 | rfl
  · exact hss s h1
  · exact ScrW.nil L
abbrev s_law_lines : Stmt := top 65
abbrev N_law_lines : List Str := ["_law_script_here", "_law_found", "_law_instruction", "_law_part"]
theorem sc_law_lines : FnScope N_law_lines ["_law_script_here"] (defScope s_law_lines) := ⟨rfl, rfl, rfl, by decide +kernel, rfl, by decide +kernel, by decide +kernel⟩
def d_law_lines (n : Nat) : DSp := fun ys m F _ => ∃ is, ys = [.d (scrD is)] ∧ wrIs is = true ∧ lnL is ≤ 1000 ∧ dpL is ≤ n ∧ ∀ p m', m p = none → Mle (mu m p (.lst (lnY (lnsT is)))) m' → F (.l p) m'
def d_law_linesP (n : Nat) : DSp := fun ys m F P => ∃ k, n = k + 1 ∧ d_law_lines k ys m F P
theorem wr_in {x : Str} (h : (kindsL.lookup x).isSome = true) : inD (.str x) (List.map PyData.str ["repeat", "forever"]) = false := by
  rw [inD_str]
  exact decide_eq_false (by simp [op_ne h, op_nf h])
theorem ok_law_lines {f : Addr} {fd : FuncData} (F : Fun K "_law_lines" "_law_lines" s_law_lines f fd) (T : Txt K mg) {n a : Nat} {f2 : Addr} {fd2 : FuncData} (G_law_lines : GF P w K mg base "_law_lines" a f2 fd2 ["_law_script_here"] (d_law_linesP n)) : FnD P w K mg base (a+1) f fd ["_law_script_here"] (d_law_lines n) := by
  refine Dl.Fun.dok F sc_law_lines _ (fun cdv A outer s H E B hp =>
      (dss_cons (ds_set (i := 1) sc_law_lines.nd rfl (by first | exact Or.inl rfl | exact Or.inr rfl) (de_lstM da_nil))
      (dss_cons (ds_for hp rfl (di_seq (de_var (pv 0))) (dg_name (i := 2) sc_law_lines.nd rfl (by first | exact Or.inl rfl | exact Or.inr rfl))
      (dss_one (ds_if (dt_cmp opd_in (de_ix (de_var (pv 2)) (de_int) (by intro _ _; rfl)) (de_tup (da_cons (de_str) (da_cons (de_str) da_nil))) (by rfl))
      (dss_cons (ds_expr (de_bm md_append PySem.F.plainAttrs_list PySem.F.slot_list_append PySem.F.type_list_append (de_var (pv 1)) (da_cons (de_bm md_join PySem.F.plainAttrs_str PySem.F.slot_str_join PySem.F.type_str_join (de_str) (da_cons (de_lc (fin := finD) finD_ok rfl sc_law_lines.nd (di_seq (de_sl sld_T (de_var (pv 2)) do_none (do_some (de_neg (de_int))))) (blkOk_by (own := [("_law_part", 3)]) (N := N_law_lines) (sc := defScope s_law_lines) (by decide +kernel)) (fun _ _ _ _ _ => pg_name (i := 3) sc_law_lines.nd rfl (by first | exact Or.inl rfl | exact Or.inr rfl)) (dgw_name (i := 3) (by decide)) (fun _ _ _ _ _ => dts_nil) (fun _ _ _ _ _ => de_cty cd_strU rfl T.b_str boot_str (da_cons (de_var (pv 3)) da_nil))) da_nil)) da_nil)))
      (dss_one (ds_set (i := 1) sc_law_lines.nd rfl (by first | exact Or.inl rfl | exact Or.inr rfl) (de_op opd_addM (de_op opd_addM (de_var (pv 1)) (de_gf G_law_lines B.hr B.gd B.tk rfl (da_cons (de_ix (de_var (pv 2)) (de_neg (de_int)) (by intro _ _; rfl)) da_nil) (hk := by omega))) (de_lstM (da_cons (de_str) da_nil))))))
      (dss_one (ds_expr (de_bm md_append PySem.F.plainAttrs_list PySem.F.slot_list_append PySem.F.type_list_append (de_var (pv 1)) (da_cons (de_bm md_join PySem.F.plainAttrs_str PySem.F.slot_str_join PySem.F.type_str_join (de_str) (da_cons (de_lc (fin := finD) finD_ok rfl sc_law_lines.nd (di_seq (de_var (pv 2))) (blkOk_by (own := [("_law_part", 3)]) (N := N_law_lines) (sc := defScope s_law_lines) (by decide +kernel)) (fun _ _ _ _ _ => pg_name (i := 3) sc_law_lines.nd rfl (by first | exact Or.inl rfl | exact Or.inr rfl)) (dgw_name (i := 3) (by decide)) (fun _ _ _ _ _ => dts_nil) (fun _ _ _ _ _ => de_cty cd_strU rfl T.b_str boot_str (da_cons (de_var (pv 3)) da_nil))) da_nil)) da_nil)))))))
      (dss_one (ds_ret (de_var (pv 1))))))) (fun ys m F P h => ?_)
  obtain ⟨is, rfl, hw, hn, hd, h⟩ := h
  refine ⟨rfl, len0, fun q0 hq0 => ?_⟩
  refine ⟨_, rfl, (is.map insD).map Y.d, rfl, ?_⟩
  refine ⟨fun i rs m' => ∃ q o3 o4, rs = [some (.d (scrD is)), some (.l q), o3, o4] ∧ m q = none ∧ Mle m m' ∧ m' q = some (.lst (lnY (lnsT (is.take i)))), ⟨q0, _, _, rfl, hq0, Mle.new hq0, mu_same⟩, ?_⟩
  rintro i _ m1 hi ⟨q, o3, o4, rfl, hq, hm1, hq1⟩
  refine ⟨fun _ e => (nomatch e), fun hlt => ?_, fun he => ?_⟩
  case refine_2 =>
    have he' : i = ((is.map insD).map Y.d).length := he
    rw [List.length_map, List.length_map] at he'
    rw [he', List.take_length] at hq1
    exact ⟨_, rfl, h q m1 hq (mle_at hm1 hq1)⟩
  have hlt' : i < is.length := by
    have h2 : i < ((is.map insD).map Y.d).length := hlt
    rwa [List.length_map, List.length_map] at h2
  have e1 : is[i]? = some is[i] := List.getElem?_eq_getElem hlt'
  have hmem := List.getElem_mem hlt'
  have hwi : wrI is[i] = true := List.all_eq_true.mp (by rw [← wrIs_all]; exact hw) _ hmem
  have hdi : dpI is[i] ≤ n := Nat.le_trans (dpL_mem hmem) hd
  have hni : lnI is[i] ≤ 1000 := Nat.le_trans (lnL_mem hmem) hn
  have etk := lnsT_step hlt'
  have btk : (lnsT (is.take i)).length ≤ 1000 := by rw [lnsT_len]; exact Nat.le_trans (lnL_take is i) hn
  refine ⟨.d (insD is[i]), by rw [List.getElem?_map, List.getElem?_map, e1]; rfl, ?_⟩
  generalize is[i] = ii at hwi hdi hni etk
  cases ii with
  | op x ns =>
    obtain ⟨w1, w2, w3⟩ := wr_op hwi
    refine ⟨_, rfl, 0, _, .d (.str x), rfl, rfl, at_zero, len2 _ _, .str x, [.str "repeat", .str "forever"], rfl, rfl, rfl, rfl, _, rfl, iteE (wr_in w1) ?_⟩
    refine ⟨_, rfl, .inl ⟨rfl, _, hq1⟩, rfl, _, rfl, ((PyData.str x :: ns.map PyData.int).map id).map Y.d, by rw [List.map_id]; rfl, ?_⟩
    refine lc_typed id (fun d => .str (partT d)) (by omega) (fun p e => by cases e) (fun d M hdm hM C' N' hC => ?_) (fun m2 hm2 => ?_)
    · refine iteT ⟨_, rfl, ?_⟩
      rcases w2 d hdm with ⟨i, rfl, h0, h1⟩ | ⟨a, rfl, h⟩
      · exact .inl ⟨i, rfl, log_sm h0 h1, hC _ Mle.refl⟩
      · exact .inr ⟨a, rfl, hC _ Mle.refl⟩
    have hq2 := hm2 _ _ hq1
    refine ⟨_, _, (PyData.str x :: ns.map PyData.int).map partT, rfl, rfl, by show List.map _ (List.map partT _) = List.map Y.d (List.map _ _); rw [List.map_map, List.map_map]; rfl, join_room (k := 1) (n := 10) (j := 10) (by decide +kernel) (fun x hx => by
      obtain ⟨d, hd2, rfl⟩ := List.mem_map.mp hx
      exact (w2 d hd2).tx) (by rw [List.length_map]; exact w3) (by decide), q, _, _, rfl, rfl, hq2, by rw [lnY_len]; omega, ?_⟩
    refine ⟨q, _, _, rfl, hq, mle_wr (hm1.trans hm2) hq, ?_⟩
    rw [mu_same, etk, lnY_app]
    rfl
  | rep k b =>
    rw [insD_rep]
    obtain ⟨w1, w2⟩ := wr_rep hwi
    obtain ⟨u, rfl⟩ : ∃ u, n = u + 1 := ⟨n - 1, by have : dpL b + 1 ≤ n := hdi; omega⟩
    have hdb : dpL b ≤ u := Nat.le_of_succ_le_succ hdi
    have lb : lnL b + 2 ≤ 1000 := hni
    have hin : inD (.str "repeat") (List.map PyData.str ["repeat", "forever"]) = true := by
      rw [inD_str]
      exact decide_eq_true (by simp)
    refine ⟨_, rfl, 0, _, .d (.str "repeat"), rfl, rfl, at_zero, len2 _ _, .str "repeat", [.str "repeat", .str "forever"], rfl, rfl, rfl, rfl, _, rfl, iteI hin ?_⟩
    refine ⟨_, rfl, .inl ⟨rfl, _, hq1⟩, rfl, _, rfl, 1, rfl, _, rfl, _, rfl, ?_⟩
    rw [cut_rep]
    refine ⟨(([PyData.str "repeat", .int k]).map id).map Y.d, by rw [List.map_id], ?_⟩
    refine lc_typed id (fun d => .str (partT d)) (by show 2 ≤ 10000; decide) (fun p e => by cases e) (fun d M hdm hM C' N' hC => ?_) (fun m2 hm2 => ?_)
    · refine iteT ⟨_, rfl, ?_⟩
      rcases w1 d hdm with ⟨i, rfl, h0, h1⟩ | ⟨a, rfl, h⟩
      · exact .inl ⟨i, rfl, log_sm h0 h1, hC _ Mle.refl⟩
      · exact .inr ⟨a, rfl, hC _ Mle.refl⟩
    have hq2 := hm2 _ _ hq1
    refine ⟨_, _, ([PyData.str "repeat", .int k]).map partT, rfl, rfl, by show List.map _ (List.map partT _) = List.map Y.d (List.map _ _); rw [List.map_map, List.map_map]; rfl, join_room (k := 1) (n := 10) (j := 10) (by decide +kernel) (fun x hx => by
      obtain ⟨d, hd2, rfl⟩ := List.mem_map.mp hx
      exact (w1 d hd2).tx) (by rw [List.length_map]; show 2 ≤ 10; decide) (by decide), q, _, _, rfl, rfl, hq2, by rw [lnY_len]; omega, ?_⟩
    have hN1 : Mle m (mu m2 q (.lst (lnY (lnsT (is.take i)) ++ [Y.d (.str (lineT ([PyData.str "repeat", .int k])))]))) := mle_wr (hm1.trans hm2) hq
    refine ⟨_, rfl, _, rfl, 1, rfl, -1, ([PyData.str "repeat", .int k] ++ [scrD b]).map Y.d, .d (scrD b), rfl, rfl, by rw [List.map_append]; exact at_last, u, rfl, b, rfl, w2, by omega, hdb, fun p3 m3 hp3 hm3 => ?_⟩
    have hq4 := ((Mle.new hp3).trans hm3) _ _ (mu_same (m := m2) (a := q))
    have l1 : (lnsT b).length ≤ 1000 := by rw [lnsT_len]; omega
    have hN3 := (hN1.trans (Mle.new hp3)).trans hm3
    refine ⟨_, _, hq4, hm3 _ _ mu_same, by rw [List.length_append, lnY_len, lnY_len]; simp only [List.length_cons, List.length_nil]; omega, fun p4 hp4 => ?_⟩
    refine ⟨by show 1 ≤ 10000; decide, fun p5 hp5 => ?_⟩
    refine ⟨_, _, (Mle.new hp5) _ _ mu_same, mu_same, by rw [List.length_append, List.length_append, lnY_len, lnY_len]; simp only [List.length_cons, List.length_nil]; omega, fun p6 hp6 => ?_⟩
    have hN5 := (hN3.trans (Mle.new hp4)).trans (Mle.new (o := .lst [Y.d (.str "end")]) hp5)
    refine ⟨p6, _, _, rfl, hN5.none hp6, hN5.trans (Mle.new hp6), ?_⟩
    rw [mu_same, etk, lnY_app]
    show _ = some (MO.lst (lnY _ ++ lnY (lineT ([PyData.str "repeat", .int k]) :: (lnsT b ++ [("end" : Str)]))))
    rw [show lineT ([PyData.str "repeat", .int k]) :: (lnsT b ++ [("end" : Str)]) = [lineT ([PyData.str "repeat", .int k])] ++ (lnsT b ++ [("end" : Str)]) from rfl, lnY_app, lnY_app, List.append_assoc, List.append_assoc]
    rfl
  | fore b =>
    rw [insD_fore]
    have w2 : wrIs b = true := hwi
    obtain ⟨u, rfl⟩ : ∃ u, n = u + 1 := ⟨n - 1, by have : dpL b + 1 ≤ n := hdi; omega⟩
    have hdb : dpL b ≤ u := Nat.le_of_succ_le_succ hdi
    have lb : lnL b + 2 ≤ 1000 := hni
    have hin : inD (.str "forever") (List.map PyData.str ["repeat", "forever"]) = true := by
      rw [inD_str]
      exact decide_eq_true (by simp)
    refine ⟨_, rfl, 0, _, .d (.str "forever"), rfl, rfl, at_zero, len2 _ _, .str "forever", [.str "repeat", .str "forever"], rfl, rfl, rfl, rfl, _, rfl, iteI hin ?_⟩
    refine ⟨_, rfl, .inl ⟨rfl, _, hq1⟩, rfl, _, rfl, 1, rfl, _, rfl, _, rfl, ?_⟩
    rw [cut_fore]
    refine ⟨(([PyData.str "forever"]).map id).map Y.d, by rw [List.map_id], ?_⟩
    refine lc_typed id (fun d => .str (partT d)) (by show 1 ≤ 10000; decide) (fun p e => by cases e) (fun d M hdm hM C' N' hC => ?_) (fun m2 hm2 => ?_)
    · refine iteT ⟨_, rfl, ?_⟩
      rcases wr_fore d hdm with ⟨i, rfl, h0, h1⟩ | ⟨a, rfl, h⟩
      · exact .inl ⟨i, rfl, log_sm h0 h1, hC _ Mle.refl⟩
      · exact .inr ⟨a, rfl, hC _ Mle.refl⟩
    have hq2 := hm2 _ _ hq1
    refine ⟨_, _, ([PyData.str "forever"]).map partT, rfl, rfl, by show List.map _ (List.map partT _) = List.map Y.d (List.map _ _); rw [List.map_map, List.map_map]; rfl, join_room (k := 1) (n := 10) (j := 10) (by decide +kernel) (fun x hx => by
      obtain ⟨d, hd2, rfl⟩ := List.mem_map.mp hx
      exact (wr_fore d hd2).tx) (by rw [List.length_map]; show 1 ≤ 10; decide) (by decide), q, _, _, rfl, rfl, hq2, by rw [lnY_len]; omega, ?_⟩
    have hN1 : Mle m (mu m2 q (.lst (lnY (lnsT (is.take i)) ++ [Y.d (.str (lineT ([PyData.str "forever"])))]))) := mle_wr (hm1.trans hm2) hq
    refine ⟨_, rfl, _, rfl, 1, rfl, -1, ([PyData.str "forever"] ++ [scrD b]).map Y.d, .d (scrD b), rfl, rfl, by rw [List.map_append]; exact at_last, u, rfl, b, rfl, w2, by omega, hdb, fun p3 m3 hp3 hm3 => ?_⟩
    have hq4 := ((Mle.new hp3).trans hm3) _ _ (mu_same (m := m2) (a := q))
    have l1 : (lnsT b).length ≤ 1000 := by rw [lnsT_len]; omega
    have hN3 := (hN1.trans (Mle.new hp3)).trans hm3
    refine ⟨_, _, hq4, hm3 _ _ mu_same, by rw [List.length_append, lnY_len, lnY_len]; simp only [List.length_cons, List.length_nil]; omega, fun p4 hp4 => ?_⟩
    refine ⟨by show 1 ≤ 10000; decide, fun p5 hp5 => ?_⟩
    refine ⟨_, _, (Mle.new hp5) _ _ mu_same, mu_same, by rw [List.length_append, List.length_append, lnY_len, lnY_len]; simp only [List.length_cons, List.length_nil]; omega, fun p6 hp6 => ?_⟩
    have hN5 := (hN3.trans (Mle.new hp4)).trans (Mle.new (o := .lst [Y.d (.str "end")]) hp5)
    refine ⟨p6, _, _, rfl, hN5.none hp6, hN5.trans (Mle.new hp6), ?_⟩
    rw [mu_same, etk, lnY_app]
    show _ = some (MO.lst (lnY _ ++ lnY (lineT ([PyData.str "forever"]) :: (lnsT b ++ [("end" : Str)]))))
    rw [show lineT ([PyData.str "forever"]) :: (lnsT b ++ [("end" : Str)]) = [lineT ([PyData.str "forever"])] ++ (lnsT b ++ [("end" : Str)]) from rfl, lnY_app, lnY_app, List.append_assoc, List.append_assoc]
    rfl
abbrev s_law_text : Stmt := top 66
abbrev N_law_text : List Str := ["_law_model_here", "_law_found", "_law_capacity", "_law_held", "_law_script_here", "_law_discipline", "_law_units", "_law_one", "_law_word"]
theorem sc_law_text : FnScope N_law_text ["_law_model_here"] (defScope s_law_text) := ⟨rfl, rfl, rfl, by decide +kernel, rfl, by decide +kernel, by decide +kernel⟩
theorem str_ext {a b : Str} (h : a.cps.toList = b.cps.toList) : a = b := by
  cases a with
  | mk x =>
    cases b with
    | mk y =>
      have : x = y := Array.ext' h
      rw [this]
theorem app_cps (a b : Str) : (a ++ b).cps.toList = a.cps.toList ++ b.cps.toList := by
  show (Str.append a b).cps.toList = _
  unfold Str.append
  exact Array.toList_append
theorem res_line (d : Str) (u : Int) : (("resource " : Str) ++ d ++ (" " : Str)) ++ ((toString u : String) : Str) = resL (d, u) := by
  refine str_ext ?_
  have e : resL (d, u) = Txt.join " " ["resource", d, ((toString u : String) : Str)] := rfl
  have e2 : ("resource " : Str).cps.toList = ("resource" : Str).cps.toList ++ (" " : Str).cps.toList := by decide +kernel
  rw [e, join_cps, app_cps, app_cps, app_cps, e2]
  simp
theorem gat_line (d : Str) : ("gate " : Str) ++ d = gatL d := by
  refine str_ext ?_
  have e : gatL d = Txt.join " " ["gate", d] := rfl
  have e2 : ("gate " : Str).cps.toList = ("gate" : Str).cps.toList ++ (" " : Str).cps.toList := by decide +kernel
  rw [e, join_cps, app_cps, e2]
  simp
theorem app_len (a b : Str) : (a ++ b).length = a.length + b.length := by
  have h : (a ++ b).cps.toList.length = a.cps.toList.length + b.cps.toList.length := by rw [app_cps, List.length_append]
  exact h
def d_law_text : DSp := fun ys m F _ => ∃ M, ys = [.d (modD M)] ∧ WrM M ∧ ∀ p m', m p = none → Mle (mu m p (.lst (lnY (modL M)))) m' → F (.l p) m'
theorem ok_law_text {f : Addr} {fd : FuncData} (F : Fun K "_law_text" "_law_text" s_law_text f fd) (T : Txt K mg) {a : Nat} {f3 : Addr} {fd3 : FuncData} (G_law_lines : GF P w K mg base "_law_lines" a f3 fd3 ["_law_script_here"] (d_law_lines 4)) : FnD P w K mg base (a+1) f fd ["_law_model_here"] d_law_text := by
  refine Dl.Fun.dok F sc_law_text _ (fun cdv A outer s H E B hp =>
      (dss_cons (ds_setLc (i := 1) (fin := finM) finM_ok rfl sc_law_text.nd rfl rfl (sw_true rfl rfl rfl (by decide +kernel)) (di_seq (de_ix (de_var (pv 0)) (de_int) (by intro _ _; rfl))) (blkOk_by (own := [("_law_discipline", 5), ("_law_units", 6)]) (N := N_law_text) (sc := defScope s_law_text) (by decide +kernel)) (fun _ _ _ _ _ => pg_tup (n := 2) rfl (pgs_cons (pg_name (i := 5) sc_law_text.nd rfl (by first | exact Or.inl rfl | exact Or.inr rfl)) (pgs_cons (pg_name (i := 6) sc_law_text.nd rfl (by first | exact Or.inl rfl | exact Or.inr rfl)) pgs_nil))) (dgw_tup (n := 2) (dgw_cons (dgw_name (i := 5) (by decide)) (dgw_cons (dgw_name (i := 6) (by decide)) dgw_nil))) (fun _ _ _ _ _ => dts_nil) (fun _ _ _ _ _ => de_op opd_add (de_op opd_add (de_op opd_add (de_str) (de_var (pv 5))) (de_str)) (de_cty cd_strU rfl T.b_str boot_str (da_cons (de_var (pv 6)) da_nil))))
      (dss_cons (ds_for hp rfl (di_seq (de_ix (de_var (pv 0)) (de_int) (by intro _ _; rfl))) (dg_tup (n := 2) rfl (dgs_cons (dg_name (i := 2) sc_law_text.nd rfl (by first | exact Or.inl rfl | exact Or.inr rfl)) (dgs_cons (dg_name (i := 3) sc_law_text.nd rfl (by first | exact Or.inl rfl | exact Or.inr rfl)) dgs_nil)))
      (dss_one (ds_expr (de_bm md_append PySem.F.plainAttrs_list PySem.F.slot_list_append PySem.F.type_list_append (de_var (pv 1)) (da_cons (de_bm md_join PySem.F.plainAttrs_str PySem.F.slot_str_join PySem.F.type_str_join (de_str) (da_cons (de_op opd_add (de_lst (da_cons (de_str) da_nil)) (de_lc (fin := finD) finD_ok rfl sc_law_text.nd (di_seq (de_op opd_add (de_tup (da_cons (de_var (pv 2)) da_nil)) (de_var (pv 3)))) (blkOk_by (own := [("_law_one", 7)]) (N := N_law_text) (sc := defScope s_law_text) (by decide +kernel)) (fun _ _ _ _ _ => pg_name (i := 7) sc_law_text.nd rfl (by first | exact Or.inl rfl | exact Or.inr rfl)) (dgw_name (i := 7) (by decide)) (fun _ _ _ _ _ => dts_nil) (fun _ _ _ _ _ => de_cty cd_strU rfl T.b_str boot_str (da_cons (de_var (pv 7)) da_nil)))) da_nil)) da_nil)))))
      (dss_cons (ds_set (i := 1) sc_law_text.nd rfl (by first | exact Or.inl rfl | exact Or.inr rfl) (de_op opd_addM (de_var (pv 1)) (de_lc (fin := finM) finM_ok rfl sc_law_text.nd (di_seq (de_ix (de_var (pv 0)) (de_int) (by intro _ _; rfl))) (blkOk_by (own := [("_law_word", 8)]) (N := N_law_text) (sc := defScope s_law_text) (by decide +kernel)) (fun _ _ _ _ _ => pg_name (i := 8) sc_law_text.nd rfl (by first | exact Or.inl rfl | exact Or.inr rfl)) (dgw_name (i := 8) (by decide)) (fun _ _ _ _ _ => dts_nil) (fun _ _ _ _ _ => de_op opd_add (de_str) (de_var (pv 8))))))
      (dss_cons (ds_for hp rfl (di_seq (de_ix (de_var (pv 0)) (de_int) (by intro _ _; rfl))) (dg_name (i := 4) sc_law_text.nd rfl (by first | exact Or.inl rfl | exact Or.inr rfl))
      (dss_one (ds_set (i := 1) sc_law_text.nd rfl (by first | exact Or.inl rfl | exact Or.inr rfl) (de_op opd_addM (de_op opd_addM (de_var (pv 1)) (de_lstM (da_cons (de_str) da_nil))) (de_gf G_law_lines B.hr B.gd B.tk rfl (da_cons (de_var (pv 4)) da_nil) (hk := by omega))))))
      (dss_one (ds_ret (de_var (pv 1))))))))) (fun ys m F P h => ?_)
  obtain ⟨M, rfl, hw, h⟩ := h
  have l1 := hw.r.1
  have l2 := hw.s.1
  have l3 := hw.g.1
  have l4 := hw.c.1
  refine ⟨rfl, _, rfl, 0, _, .d (.tuple (M.res.map resD)), rfl, rfl, at_zero, (M.res.map resD).map Y.d, rfl, ?_⟩
  refine lc_typedM resD (fun q => .str (resL q)) (by omega) (fun p e => by cases e) (fun q M2 hq hM2 C' N' hC => ?_) (fun q1 m2 hq1 hm2 => ?_)
  · refine tup2 (y := .d (.str q.1)) (z := .d (.int q.2)) (.inl ⟨_, _, rfl, rfl, rfl⟩) ?_
    have a := hw.r.2 q hq
    have t1 : q.1.length ≤ 10 := by
      rcases pt_disc a.1 with ⟨_, e, _⟩ | ⟨_, e, t⟩
      · cases e
      · cases e; exact t.len
    have t2 := (num_tx a.2.1 a.2.2).len
    have c1 : ("resource " : Str).length = 9 := by decide +kernel
    have c2 : (" " : Str).length = 1 := by decide +kernel
    refine ⟨_, _, rfl, _, _, rfl, rfl, iteT ⟨_, rfl, by rw [c1]; omega, by rw [app_len, c1, c2]; omega, _, rfl, .inl ⟨q.2, rfl, log_sm a.2.1 a.2.2, by rw [app_len, app_len, c1, c2]; omega, ?_⟩⟩⟩
    rw [res_line]
    exact hC _ Mle.refl
  have hl1 : m2 q1 = some (.lst (lnY (M.res.map resL))) := by rw [lnY_map]; exact hm2 _ _ mu_same
  have hm2' : Mle m m2 := (Mle.new hq1).trans hm2
  refine ⟨_, rfl, 1, _, .d (.tuple (M.sto.map stoD)), rfl, rfl, at_nat (n := 1) rfl, (M.sto.map stoD).map Y.d, rfl, ?_⟩
  refine ⟨fun i rs m' => ∃ o2 o3 o4 o5 o6 o7 o8, rs = [some (.d (modD M)), some (.l q1), o2, o3, o4, o5, o6, o7, o8] ∧ Mle m m' ∧ m' q1 = some (.lst (lnY (M.res.map resL ++ (M.sto.take i).map stoL))), ⟨_, _, _, _, _, _, _, rfl, hm2', by rw [List.take_zero, List.map_nil, List.append_nil]; exact hl1⟩, ?_⟩
  rintro i _ m3 hi ⟨o2, o3, o4, o5, o6, o7, o8, rfl, hm3, hl3⟩
  refine ⟨fun _ e => (nomatch e), fun hlt => ?_, fun he => ?_⟩
  · have hlt' : i < M.sto.length := by
      have h2 : i < ((M.sto.map stoD).map Y.d).length := hlt
      rwa [List.length_map, List.length_map] at h2
    have e1 : M.sto[i]? = some M.sto[i] := List.getElem?_eq_getElem hlt'
    have hs1 := hw.sp (List.getElem_mem hlt')
    have hs2 := (hw.s.2 _ (List.getElem_mem hlt')).2.2.1
    have etk : (M.sto.take (i + 1)).map stoL = (M.sto.take i).map stoL ++ [stoL M.sto[i]] := by
      rw [List.take_succ_eq_append_getElem hlt', List.map_append]; rfl
    refine ⟨.d (stoD M.sto[i]), by rw [List.getElem?_map, List.getElem?_map, e1]; rfl, ?_⟩
    generalize M.sto[i] = q at hs1 hs2 etk
    refine tup2 (y := .d (.int q.1)) (z := .d (.tuple (q.2.map PyData.int))) (.inl ⟨_, _, rfl, rfl, rfl⟩) ?_
    refine ⟨_, _, rfl, _, _, rfl, rfl, ?_⟩
    refine ⟨_, rfl, .inl ⟨rfl, _, hl3⟩, rfl, by show 1 ≤ 10000; decide, [.str "store"], rfl, ?_⟩
    refine ⟨_, rfl, by show 1 ≤ 10000; decide, _, rfl, by rw [List.length_map]; show 1 + _ ≤ 10000; omega, ((PyData.int q.1 :: q.2.map PyData.int).map id).map Y.d, by rw [List.map_id]; rfl, ?_⟩
    have hpt : ∀ d ∈ PyData.int q.1 :: q.2.map PyData.int, PtOk d := fun d hd => hs1 d (List.mem_cons_of_mem _ hd)
    refine lc_typed id (fun d => .str (partT d)) (by rw [List.length_cons, List.length_map]; omega) (fun p e => by cases e) (fun d M hdm hM C' N' hC => ?_) (fun m4 hm4 => ?_)
    · refine iteT ⟨_, rfl, ?_⟩
      rcases hpt d hdm with ⟨i, rfl, h0, h1⟩ | ⟨a, rfl, h⟩
      · exact .inl ⟨i, rfl, log_sm h0 h1, hC _ Mle.refl⟩
      · exact .inr ⟨a, rfl, hC _ Mle.refl⟩
    have hl4 := hm4 _ _ hl3
    refine ⟨_, _, (PyData.str "store" :: .int q.1 :: q.2.map PyData.int).map (fun d => .str (partT d)), rfl, rfl, by simp only [List.length_map, List.length_cons, List.length_nil]; omega, rfl, ?_⟩
    refine ⟨_, _, (PyData.str "store" :: .int q.1 :: q.2.map PyData.int).map partT, rfl, rfl, by show List.map _ (List.map partT _) = List.map Y.d (List.map _ _); rw [List.map_map, List.map_map]; rfl, join_room (k := 1) (n := 10) (j := 10) (by decide +kernel) (fun x hx => by
      obtain ⟨d, hd2, rfl⟩ := List.mem_map.mp hx
      exact (hs1 d hd2).tx) (by rw [List.length_map, List.length_cons, List.length_cons, List.length_map]; omega) (by decide), q1, _, _, rfl, rfl, hl4, by rw [lnY_len, List.length_append, List.length_map, List.length_map, List.length_take]; omega, ?_⟩
    refine ⟨_, _, _, _, _, _, _, rfl, mle_wr (hm3.trans hm4) hq1, ?_⟩
    rw [mu_same, etk, ← List.append_assoc, lnY_app (_ ++ _)]
    rfl
  · have he' : i = ((M.sto.map stoD).map Y.d).length := he
    rw [List.length_map, List.length_map] at he'
    rw [he', List.take_length] at hl3
    refine ⟨_, rfl, _, rfl, 2, _, .d (.tuple (M.gat.map PyData.str)), rfl, rfl, at_nat (n := 2) rfl, (M.gat.map PyData.str).map Y.d, rfl, ?_⟩
    refine lc_typedM PyData.str (fun q => .str (gatL q)) (by omega) (fun p e => by cases e) (fun q M2 hq hM2 C' N' hC => ?_) (fun q3 m4 hq3 hm4 => ?_)
    · have t1 : q.length ≤ 10 := by
        rcases pt_gate (hw.g.2 q hq) with ⟨_, e, _⟩ | ⟨_, e, t⟩
        · cases e
        · cases e; exact t.len
      have c1 : ("gate " : Str).length = 5 := by decide +kernel
      refine iteT ⟨_, rfl, by rw [c1]; omega, ?_⟩
      rw [gat_line]
      exact hC _ Mle.refl
    have hq4 := ((Mle.new hq3).trans hm4) _ _ hl3
    refine ⟨_, _, hq4, hm4 _ _ mu_same, by rw [lnY_len, List.length_append, List.length_map, List.length_map, List.length_map, List.length_map]; omega, fun q5 hq5 => ?_⟩
    rw [← lnY_map] at hm4 ⊢
    rw [← lnY_app]
    generalize hX : M.res.map resL ++ M.sto.map stoL ++ M.gat.map gatL = X
    have hXl : X.length ≤ 10 := by rw [← hX, List.length_append, List.length_append, List.length_map, List.length_map, List.length_map]; omega
    have hm5 := (hm3.trans (Mle.new hq3)).trans hm4
    refine ⟨_, rfl, 3, _, .d (.tuple (M.scr.map scrD)), rfl, rfl, at_nat (n := 3) rfl, (M.scr.map scrD).map Y.d, rfl, ?_⟩
    refine ⟨fun i rs m' => ∃ q o2 o3 o4 o5 o6 o7 o8, rs = [some (.d (modD M)), some (.l q), o2, o3, o4, o5, o6, o7, o8] ∧ m q = none ∧ Mle m m' ∧ m' q = some (.lst (lnY (X ++ scrsT (M.scr.take i)))), ⟨q5, _, _, _, _, _, _, _, rfl, hm5.none hq5, hm5.trans (Mle.new hq5), by rw [mu_same, List.take_zero]; show _ = some (MO.lst (lnY (X ++ []))); rw [List.append_nil]⟩, ?_⟩
    rintro i2 _ m6 hi2 ⟨q, o2, o3, o4, o5, o6, o7, o8, rfl, hqn, hm6, hl6⟩
    refine ⟨fun _ e => (nomatch e), fun hlt => ?_, fun he2 => ?_⟩
    case refine_2 =>
      have he2' : i2 = ((M.scr.map scrD).map Y.d).length := he2
      rw [List.length_map, List.length_map] at he2'
      rw [he2', List.take_length] at hl6
      have eX : X ++ scrsT M.scr = modL M := by rw [← hX]; rfl
      rw [eX] at hl6
      exact ⟨_, rfl, h q m6 hqn (mle_at hm6 hl6)⟩
    have hlt' : i2 < M.scr.length := by
      have h2 : i2 < ((M.scr.map scrD).map Y.d).length := hlt
      rwa [List.length_map, List.length_map] at h2
    have e1 : M.scr[i2]? = some M.scr[i2] := List.getElem?_eq_getElem hlt'
    obtain ⟨c1, c2, c3⟩ := hw.c.2 _ (List.getElem_mem hlt')
    have etk := scrsT_step hlt'
    have btk : (scrsT (M.scr.take i2)).length ≤ 6006 := by
      have a := scrsT_len (ss := M.scr.take i2) fun q hq => (hw.c.2 q (List.mem_of_mem_take hq)).2.1
      have b : (M.scr.take i2).length ≤ 6 := by rw [List.length_take]; omega
      omega
    refine ⟨.d (scrD M.scr[i2]), by rw [List.getElem?_map, List.getElem?_map, e1]; rfl, ?_⟩
    generalize M.scr[i2] = s at c1 c2 c3 etk
    refine ⟨_, rfl, by show 1 ≤ 10000; decide, fun p1 hp1 => ?_⟩
    refine ⟨_, _, (Mle.new hp1) _ _ hl6, mu_same, by rw [lnY_len, List.length_append]; simp only [List.length_cons, List.length_nil]; omega, fun p2 hp2 => ?_⟩
    refine ⟨_, rfl, s, rfl, c1, c2, c3, fun p3 m7 hp3 hm7 => ?_⟩
    have hN := ((hm6.trans (Mle.new (o := .lst [Y.d (.str "process")]) hp1)).trans (Mle.new (o := .lst (lnY (X ++ scrsT (M.scr.take i2)) ++ [Y.d (.str "process")])) hp2))
    have lS : (lnsT s).length ≤ 1000 := by rw [lnsT_len]; exact c2
    refine ⟨_, _, ((Mle.new hp3).trans hm7) _ _ mu_same, hm7 _ _ mu_same, by rw [List.length_append, lnY_len, lnY_len, List.length_append]; simp only [List.length_cons, List.length_nil]; omega, fun p4 hp4 => ?_⟩
    have hN2 := (hN.trans (Mle.new hp3)).trans hm7
    refine ⟨p4, _, _, _, _, _, _, _, rfl, hN2.none hp4, hN2.trans (Mle.new hp4), ?_⟩
    rw [mu_same, etk]
    show _ = some (MO.lst (lnY (X ++ (scrsT _ ++ ([("process" : Str)] ++ lnsT s)))))
    rw [lnY_app, lnY_app, lnY_app, lnY_app, List.append_assoc, List.append_assoc]
    rfl
abbrev s_law_same : Stmt := top 55
abbrev N_law_same : List Str := ["_law_one", "_law_other"]
theorem sc_law_same : FnScope N_law_same ["_law_one", "_law_other"] (defScope s_law_same) := ⟨rfl, rfl, rfl, by decide +kernel, rfl, by decide +kernel, by decide +kernel⟩
def d_law_same : DSp := fun ys m F _ => ∃ x, ys = [.d (.str x), .d (.str x)] ∧ TxOk 900000 x ∧ ∀ m', Mle m m' → F (.d (.bool true)) m'
theorem ok_law_same {f : Addr} {fd : FuncData} (F : Fun K "_law_same" "_law_same" s_law_same f fd) (T : Txt K mg)  : FnD P w K mg base 1 f fd ["_law_one", "_law_other"] d_law_same := by
  refine Dl.Fun.dok F sc_law_same _ (fun cdv A outer s H E B hp =>
      (dss_one (ds_ret (de_and (de_cmp (opd_eq (Dl.Room.u64 B.hr)) (de_var (pv 0)) (de_var (pv 1)) (nomark _)) (de_one (de_cmp (opd_eq (Dl.Room.u64 B.hr)) (de_cb (cd_repr B.gd (Dl.Room.u64 B.hr)) rfl T.b_repr boot_repr (da_cons (de_var (pv 0)) da_nil)) (de_cb (cd_repr B.gd (Dl.Room.u64 B.hr)) rfl T.b_repr boot_repr (da_cons (de_var (pv 1)) da_nil)) (nomark _))))))) (fun ys m F P h => ?_)
  obtain ⟨x, rfl, hx, h⟩ := h
  have hc : cst (.str x) ≤ 10000000 := by
    have := PySem.StrLaws.reprText_len x hx.cp
    have l := hx.len
    show (reprText x).length ≤ _
    omega
  refine ⟨rfl, _, rfl, _, rfl, _, rfl, iteI (decide_eq_true rfl) ⟨_, rfl, .str x, rfl, rfl, rfl, Nat.le_of_ble_eq_true rfl, hc, _, rfl, .str x, rfl, rfl, rfl, Nat.le_of_ble_eq_true rfl, hc, ?_⟩⟩
  have e : decide (PyData.shown (.str x) = PyData.shown (.str x)) = true := decide_eq_true rfl
  show F (.d (.bool (decide (PyData.shown (.str x) = PyData.shown (.str x))))) m
  rw [e]
  exact h m Mle.refl
abbrev s_law_wide : Stmt := top 67
abbrev N_law_wide : List Str := ["_law_pen_here", "_law_model_here", "_law_body_here", "_law_inner", "_law_odd", "_law_outer", "_law_ends", "_law_scripts"]
theorem sc_law_wide : FnScope N_law_wide ["_law_pen_here", "_law_model_here"] (defScope s_law_wide) := ⟨rfl, rfl, rfl, by decide +kernel, rfl, by decide +kernel, by decide +kernel⟩
/-- more processes: what may be roused grows -/
structure Wider (L L' : Lims) : Prop where
  r : L'.nr = L.nr
  s : L'.ns = L.ns
  g : L'.ng = L.ng
  p : L.np ≤ L'.np
theorem last_np {L L' : Lims} (h : Wider L L') (k : Str) : lastOf L' k = lastOf L k ∨ ∃ x y, lastOf L k = .int x ∧ lastOf L' k = .int y ∧ x ≤ y := by
  by_cases hk : k = "process"
  · subst hk
    exact .inr ⟨_, _, rfl, rfl, by have := h.p; omega⟩
  · left
    have hk' : (k == ("process" : Str)) = false := by simpa using hk
    unfold lastOf lastL
    simp only [List.lookup_cons, hk', h.r, h.s, h.g]
theorem bn_np {L L' : Lims} (h : Wider L L') {v : Int} {k : Str} (b : isBn (.int v) 0 (lastOf L k) = true) : isBn (.int v) 0 (lastOf L' k) = true := by
  rcases last_np h k with e | ⟨x, y, e1, e2, l⟩
  · rw [e]; exact b
  · rw [e1] at b
    rw [e2]
    obtain ⟨a1, a2⟩ := (Bool.and_eq_true _ _).mp (show (decide (0 ≤ v) && decide (v ≤ x)) = true from b)
    have a1 := of_decide_eq_true a1
    have a2 := of_decide_eq_true a2
    show (decide (0 ≤ v) && decide (v ≤ y)) = true
    rw [decide_eq_true a1, decide_eq_true (show v ≤ y by omega)]
    rfl
theorem okOp_np {L L' : Lims} (h : Wider L L') {w : Str} {ns : List Int} (b : okOp L w ns = true) : okOp L' w ns = true := by
  unfold okOp at b ⊢
  cases e : kindsL.lookup w with
  | none => rw [e] at b; cases b
  | some ks =>
    rw [e] at b
    obtain ⟨b1, b2⟩ := (Bool.and_eq_true _ _).mp b
    show (decide (ns.length = ks.length) && _) = true
    rw [b1, Bool.true_and]
    exact List.all_eq_true.mpr fun q hq => bn_np h (List.all_eq_true.mp b2 q hq)
mutual
theorem okI_np {L L' : Lims} (h : Wider L L') : ∀ (i : Ins) {j : Int}, okI L j i = true → okI L' j i = true
  | .op _ _, _, b => okOp_np h b
  | .rep k b, j, c => by
    unfold okI at c ⊢
    obtain ⟨h1, h2⟩ := (Bool.and_eq_true _ _).mp c
    obtain ⟨h3, h4⟩ := (Bool.and_eq_true _ _).mp h2
    obtain ⟨h5, h6⟩ := (Bool.and_eq_true _ _).mp h4
    rw [h1, h3, h5, okIs_np h b h6]
    rfl
  | .fore _, _, c => by unfold okI at c; cases c
theorem okIs_np {L L' : Lims} (h : Wider L L') : ∀ (is : List Ins) {j : Int}, okIs L j is = true → okIs L' j is = true
  | [], _, _ => rfl
  | i :: is, j, c => by
    unfold okIs at c ⊢
    obtain ⟨h1, h2⟩ := (Bool.and_eq_true _ _).mp c
    rw [okI_np h i h1, okIs_np h is h2]
    rfl
end
theorem all_np {L L' : Lims} (h : Wider L L') {j : Int} {is : List Ins} (c : is.all (okI L j) = true) : is.all (okI L' j) = true :=
  List.all_eq_true.mpr fun x hx => okI_np h x (List.all_eq_true.mp c x hx)
theorem okScr_np {L L' : Lims} (h : Wider L L') {is : List Ins} (c : okScr L is = true) : okScr L' is = true := by
  unfold okScr at c ⊢
  cases e : is.getLast? with
  | none => rfl
  | some i =>
    rw [e] at c
    have c' : (if isFore L i then is.dropLast.all (okI L 1) else is.all (okI L 1)) = true := c
    show (if isFore L' i then is.dropLast.all (okI L' 1) else is.all (okI L' 1)) = true
    by_cases f : isFore L i = true
    · rw [if_pos f] at c'
      have f' : isFore L' i = true := by
        cases i with
        | fore b =>
          obtain ⟨f1, f2⟩ := (Bool.and_eq_true _ _).mp (show (!b.isEmpty && b.all (okI L 2)) = true from f)
          show (!b.isEmpty && b.all (okI L' 2)) = true
          rw [f1, all_np h f2]
          rfl
        | op _ _ => cases f
        | rep _ _ => cases f
      rw [if_pos f']
      exact all_np h c'
    · rw [if_neg f] at c'
      have hi : okI L 1 i = true := List.all_eq_true.mp c' i (List.mem_of_getLast? e)
      have f' : ¬ isFore L' i = true := by
        cases i with
        | fore b => unfold okI at hi; cases hi
        | op _ _ => exact fun z => by cases z
        | rep _ _ => exact fun z => by cases z
      rw [if_neg f']
      exact all_np h c'
theorem ScrW.np {L L' : Lims} {is : List Ins} (hs : ScrW L is) (h : Wider L L') : ScrW L' is := ⟨⟨okScr_np h hs.v.ok, hs.v.mp, hs.v.bal⟩, hs.ln, hs.sm, hs.wr, hs.dp⟩
def d_law_wide : DSp := fun ys m F _ => ∃ p l M, ys = [.l p, .d (modD M)] ∧ ModW M 4 ∧ PenL l ∧ m p = some (.lst l) ∧ ∀ M' l' m', ModW M' 6 → PenL l' → Mle (mu m p (.lst l')) m' → F (.d (modD M')) m'
theorem ok_law_wide {f : Addr} {fd : FuncData} (F : Fun K "_law_wide" "_law_wide" s_law_wide f fd) (T : Txt K mg) {f1 f2 : Addr} {fd1 fd2 : FuncData} (G_law_draw : GF P w K mg base "_law_draw" 1 f1 fd1 ["_law_pen_here", "_law_many"] d_law_draw) (G_law_pick : GF P w K mg base "_law_pick" 2 f2 fd2 ["_law_pen_here", "_law_things"] d_law_pick) : FnD P w K mg base 3 f fd ["_law_pen_here", "_law_model_here"] d_law_wide := by
  refine Dl.Fun.dok F sc_law_wide _ (fun cdv A outer s H E B hp =>
      (dss_cons (ds_if (dt_cmp (opd_eq (Dl.Room.u64 B.hr)) (de_gf G_law_draw B.hr B.gd B.tk rfl (da_cons (de_var (pv 0)) (da_cons (de_int) da_nil))) (de_int) (nomark _))
      (dss_one (ds_ret (de_var (pv 1))))
      dss_nil)
      (dss_cons (ds_set (i := 2) sc_law_wide.nd rfl (by first | exact Or.inl rfl | exact Or.inr rfl) (de_tup (da_cons (de_tup (da_cons (de_str) (da_cons (de_gf G_law_draw B.hr B.gd B.tk rfl (da_cons (de_var (pv 0)) (da_cons (de_int) da_nil))) da_nil))) (da_cons (de_tup (da_cons (de_str) (da_cons (de_gf G_law_draw B.hr B.gd B.tk rfl (da_cons (de_var (pv 0)) (da_cons (de_int) da_nil))) da_nil))) da_nil))))
      (dss_cons (ds_set (i := 3) sc_law_wide.nd rfl (by first | exact Or.inl rfl | exact Or.inr rfl) (de_tup (da_cons (de_str) (da_cons (de_gf G_law_draw B.hr B.gd B.tk rfl (da_cons (de_var (pv 0)) (da_cons (de_int) da_nil))) (da_cons (de_var (pv 2)) da_nil)))))
      (dss_cons (ds_set (i := 4) sc_law_wide.nd rfl (by first | exact Or.inl rfl | exact Or.inr rfl) (de_gf G_law_pick B.hr B.gd B.tk rfl (da_cons (de_var (pv 0)) (da_cons (de_lst (da_cons (de_int) (da_cons (de_int) (da_cons (de_int) (da_cons (de_int) (da_cons (de_int) (da_cons (de_int) da_nil))))))) da_nil))))
      (dss_cons (ds_set (i := 5) sc_law_wide.nd rfl (by first | exact Or.inl rfl | exact Or.inr rfl) (de_tup (da_cons (de_str) (da_cons (de_gf G_law_draw B.hr B.gd B.tk rfl (da_cons (de_var (pv 0)) (da_cons (de_int) da_nil))) (da_cons (de_tup (da_cons (de_tup (da_cons (de_str) (da_cons (de_var (pv 4)) da_nil))) (da_cons (de_var (pv 3)) (da_cons (de_tup (da_cons (de_str) (da_cons (de_int) da_nil))) da_nil)))) da_nil)))))
      (dss_cons (ds_set (i := 6) sc_law_wide.nd rfl (by first | exact Or.inl rfl | exact Or.inr rfl) (de_tup (da_cons (de_tup (da_cons (de_str) (da_cons (de_gf G_law_draw B.hr B.gd B.tk rfl (da_cons (de_var (pv 0)) (da_cons (de_int) da_nil))) (da_cons (de_tup (da_cons (de_var (pv 5)) (da_cons (de_var (pv 3)) da_nil))) da_nil)))) (da_cons (de_tup (da_cons (de_str) (da_cons (de_int) da_nil))) da_nil))))
      (dss_cons (ds_set (i := 7) sc_law_wide.nd rfl (by first | exact Or.inl rfl | exact Or.inr rfl) (de_lst (da_cons (de_var (pv 6)) (da_cons (de_tup (da_cons (de_tup (da_cons (de_str) (da_cons (de_tup (da_cons (de_var (pv 5)) (da_cons (de_tup (da_cons (de_str) (da_cons (de_int) da_nil))) da_nil))) da_nil))) da_nil)) (da_cons (de_tup da_nil) da_nil)))))
      (dss_one (ds_ret (de_tup (da_cons (de_ix (de_var (pv 1)) (de_int) (by intro _ _; rfl)) (da_cons (de_ix (de_var (pv 1)) (de_int) (by intro _ _; rfl)) (da_cons (de_ix (de_var (pv 1)) (de_int) (by intro _ _; rfl)) (da_cons (de_sl sld_T (de_op opd_add (de_ix (de_var (pv 1)) (de_int) (by intro _ _; rfl)) (de_cty cd_tuple rfl T.b_tuple boot_tuple (da_cons (de_sl sld_L (de_var (pv 7)) (do_some (de_gf G_law_draw B.hr B.gd B.tk rfl (da_cons (de_var (pv 0)) (da_cons (de_int) da_nil)))) do_none) da_nil))) do_none (do_some (de_int))) da_nil))))))))))))))) (fun ys m F P h => ?_)
  obtain ⟨p, l, M, rfl, hM, hl, hp, h⟩ := h
  refine ⟨rfl, _, rfl, p, 2, l, rfl, by decide, by decide, hl, hp, fun c l1 m1 c0 c1 hl1 hm1 => ?_⟩
  refine ⟨_, rfl, iteB (fun k1 => ?_) (fun k1 => ?_)⟩
  · exact ⟨_, rfl, h M l1 m1 ⟨hM.r, hM.s, hM.g, hM.c.1, Nat.le_trans hM.c.2.1 (by decide), hM.c.2.2⟩ hl1 hm1⟩
  have hp1 := hm1 _ _ (mu_same (a := p) (m := m))
  refine ⟨_, rfl, p, 101, l1, rfl, by decide, by decide, hl1, hp1, fun t l2 m2 t0 t1 hl2 hm2 => ⟨len2 _ _, ?_⟩⟩
  refine ⟨_, rfl, p, 1000, l2, rfl, by decide, by decide, hl2, hm2 _ _ mu_same, fun a l3 m3 a0 a1 hl3 hm3 => ⟨len2 _ _, len2 _ _, ?_⟩⟩
  refine ⟨_, rfl, p, 6, l3, rfl, by decide, by decide, hl3, hm3 _ _ mu_same, fun c2 l4 m4 c20 c21 hl4 hm4 => ⟨_, rfl, len3 _ _ _, ?_⟩⟩
  refine ⟨_, rfl, by show 6 ≤ 10000; decide, [.int 0, .int 9, .int 10, .int 99, .int 100, .int 999], rfl, p, _, l4, rfl, by decide, by decide, hl4, hm4 _ _ mu_same, fun d l5 m5 hd hl5 hm5 => ?_⟩
  obtain ⟨o, rfl, o0, o9⟩ : ∃ o : Int, d = .int o ∧ 0 ≤ o ∧ o ≤ 999 := by
    simp only [List.mem_cons, List.not_mem_nil, or_false] at hd
    rcases hd with rfl | rfl | rfl | rfl | rfl | rfl <;> exact ⟨_, rfl, by decide, by decide⟩
  refine ⟨_, rfl, p, 6, l5, rfl, by decide, by decide, hl5, hm5 _ _ mu_same, fun c3 l6 m6 c30 c31 hl6 hm6 => ⟨_, rfl, len2 _ _, _, rfl, len2 _ _, len3 _ _ _, len3 _ _ _, ?_⟩⟩
  refine ⟨_, rfl, p, 6, l6, rfl, by decide, by decide, hl6, hm6 _ _ mu_same, fun c4 l7 m7 c40 c41 hl7 hm7 => ⟨_, rfl, _, rfl, len2 _ _, len3 _ _ _, len2 _ _, len2 _ _, ?_⟩⟩
  have hmW := pen_mle (pen_mle (pen_mle (pen_mle (pen_mle (pen_mle hm1 hm2) hm3) hm4) hm5) hm6) hm7
  generalize hinn : Ins.rep c2 [.op "wait" [t], .op "mark" [a]] = inn
  generalize hout : Ins.rep c3 [.op "mark" [o], inn, .op "wait" [0]] = out
  have einn : insD inn = .tuple [.str "repeat", .int c2, .tuple [.tuple [.str "wait", .int t], .tuple [.str "mark", .int a]]] := by rw [← hinn, insD_rep]; rfl
  have eout : insD out = .tuple [.str "repeat", .int c3, .tuple [.tuple [.str "mark", .int o], insD inn, .tuple [.str "wait", .int 0]]] := by rw [← hout, insD_rep]; rfl
  rw [einn] at eout
  refine mkT_l (ds := [insD (.rep c4 [out, inn]), insD (.op "rouse" [0])]) (by rw [insD_rep]; show _ = [Y.d (.tuple [.str "repeat", .int c4, .tuple [insD out, insD inn]]), Y.d (.tuple [.str "rouse", .int 0])]; rw [eout, einn]) ?_
  refine ⟨_, rfl, _, rfl, len2 _ _, len2 _ _, len2 _ _, len1 _, len0, by show 3 ≤ 10000; decide, [scrD [.rep c4 [out, inn], .op "rouse" [0]], scrD [.fore [out, .op "wait" [100]]], scrD []], ?_, ?_⟩
  · show [Y.d (.tuple [insD (.rep c4 [out, inn]), insD (.op "rouse" [0])]), _, _] = [Y.d _, Y.d (.tuple [insD (.fore [out, .op "wait" [100]])]), Y.d _]
    rw [insD_fore]
    show _ = [Y.d _, Y.d (.tuple [.tuple [.str "forever", .tuple [insD out, insD (.op "wait" [100])]]]), Y.d _]
    rw [eout]
    rfl
  refine ⟨_, rfl, 0, _, .d (.tuple (M.res.map resD)), rfl, rfl, at_zero, _, rfl, 1, _, .d (.tuple (M.sto.map stoD)), rfl, rfl, at_nat (n := 1) rfl, _, rfl, 2, _, .d (.tuple (M.gat.map PyData.str)), rfl, rfl, at_nat (n := 2) rfl, _, rfl, 3, _, .d (.tuple (M.scr.map scrD)), rfl, rfl, at_nat (n := 3) rfl, ?_⟩
  refine ⟨_, rfl, _, rfl, p, 3, l7, rfl, by decide, by decide, hl7, hm7 _ _ mu_same, fun k l8 m8 k0 k2 hl8 hm8 => ?_⟩
  have hmE := pen_mle hmW hm8
  generalize hX : ([[.rep c4 [out, inn], .op "rouse" [0]], [.fore [out, .op "wait" [100]]], []] : List (List Ins)) = X
  have hcut : cutD ([scrD [.rep c4 [out, inn], .op "rouse" [0]], scrD [.fore [out, .op "wait" [100]]], scrD []].map Y.d) (some k) none = ((X.drop k.toNat).map scrD).map Y.d := by
    rw [← hX]
    obtain rfl | rfl | rfl : k = 0 ∨ k = 1 ∨ k = 2 := by omega
    · rfl
    · rfl
    · rfl
  have lX : (X.drop k.toNat).length ≤ 3 := by rw [List.length_drop, ← hX]; show 3 - _ ≤ 3; omega
  have lS := hM.c.2.1
  refine ⟨k, rfl, _, (X.drop k.toNat).map scrD, .inl ⟨_, rfl, rfl⟩, hcut, _, rfl, .inr ⟨_, rfl, mkT_l rfl ⟨by rw [List.length_map, List.length_map]; omega, ?_⟩⟩⟩
  have ec : cutD (M.scr.map scrD ++ (X.drop k.toNat).map scrD) none (some 6) = ((M.scr ++ X.drop k.toNat).take 6).map scrD := by
    rw [← List.map_append, show (6 : Int) = ((6 : Nat) : Int) from rfl, cut_to, List.map_take]
  refine ⟨6, rfl, _, rfl, ?_⟩
  rw [ec]
  generalize hS : (M.scr ++ X.drop k.toNat).take 6 = S
  have lS2 : S.length ≤ 6 ∧ M.scr.length ≤ S.length := by rw [← hS, List.length_take, List.length_append]; omega
  have hn1 := hM.c.1
  have hWd : Wider (limsOf M) (limsOf ⟨M.res, M.sto, M.gat, S⟩) := ⟨rfl, rfl, rfl, by show (M.scr.length : Int) ≤ (S.length : Int); omega⟩
  generalize hL : limsOf ⟨M.res, M.sto, M.gat, S⟩ = L' at hWd
  have hnp : 1 ≤ L'.np := by rw [← hL]; show (1 : Int) ≤ (S.length : Int); omega
  have q1 : ∀ j, Pc L' 2 j [.op "wait" [t], .op "mark" [a]] := fun j => (pc_w t0 (by omega)).app (pc_1 (opF_1 (hi := 999) rfl rfl a0 (by omega) (by omega)) (by decide +kernel) (by decide +kernel))
  have q2 : ∀ j : Int, j ≤ 3 → Pc L' 4 j [inn] := fun j hj => by rw [← hinn]; exact pc_rep (q1 _) (by simp) hj c20 (by omega) (by decide)
  have q3 : Pc L' 8 2 [out] := by
    rw [← hout]
    exact pc_rep (n := 6) (((pc_1 (opF_1 (hi := 999) rfl rfl o0 o9 (by omega)) (by decide +kernel) (by decide +kernel)).app (q2 3 (by decide))).app (pc_w (by decide) (by decide))) (by simp) (by decide) c30 (by omega) (by decide)
  have q4 : Pc L' 15 1 [.rep c4 [out, inn], .op "rouse" [0]] := (pc_rep (q3.app (q2 2 (by decide))) (by simp) (by decide) c40 (by omega) (by decide)).app (pc_1 (opF_1 rfl rfl (by decide) (by omega) (by decide)) (by decide +kernel) (by decide +kernel))
  have q5 : ScrW L' [.fore [out, .op "wait" [100]]] := ScrW.fore (n := 0) (xs := []) Pc.nil (q3.app (pc_w (by decide) (by decide))) (by simp) (by
    have e : tL [out, .op "wait" [100]] = tL [out] + tL [.op "wait" [100]] := tL_app [out] [.op "wait" [100]]
    have := q3.t
    rw [e, tL_w]; omega) (by decide)
  have hSc : ∀ s ∈ S, ScrW L' s := fun s hs => by
    rw [← hS] at hs
    rcases List.mem_append.mp (List.mem_of_mem_take hs) with hs | hs
    · exact (hM.c.2.2 s hs).np hWd
    · have hs := List.mem_of_mem_drop hs
      rw [← hX] at hs
      simp only [List.mem_cons, List.not_mem_nil, or_false] at hs
      rcases hs with rfl | rfl | rfl
      · exact ScrW.pc q4 (by decide)
      · exact q5
      · exact ScrW.nil L'
  refine ⟨by show 4 ≤ 10000; decide, ?_⟩
  exact h ⟨M.res, M.sto, M.gat, S⟩ l8 m8 ⟨hM.r, hM.s, hM.g, by show 1 ≤ S.length; omega, lS2.1, fun s hs => by rw [hL]; exact hSc s hs⟩ hl8 hmE
abbrev s_law : Stmt := top 68
abbrev N_law : List Str := ["_law_script_here", "_law_k", "_law_pen_here", "_law_lap", "_law_model_here"]
theorem sc_law : FnScope N_law ["_law_script_here"] (defScope s_law) := ⟨rfl, rfl, rfl, by decide +kernel, rfl, by decide +kernel, by decide +kernel⟩
theorem ModW.wr {M : Mod} {n : Nat} (h : ModW M n) (hn : n ≤ 6) : WrM M := by
  have l4 := h.c.2.1
  refine ⟨⟨h.r.1, fun q hq => ⟨(h.r.2 q hq).1, by have := (h.r.2 q hq).2; omega, by have := (h.r.2 q hq).2; omega⟩⟩, ⟨h.s.1, fun q hq => ?_⟩, h.g, ⟨by omega, fun q hq => ?_⟩⟩
  · obtain ⟨a, b, c, d⟩ := h.s.2 q hq
    exact ⟨by omega, by omega, by omega, fun v hv => by have := d v hv; omega⟩
  · have f := h.c.2.2 q hq
    exact ⟨f.wr, Nat.le_trans f.ln (by decide), Nat.le_trans f.dp (by decide)⟩
theorem ModW.sm {M : Mod} {n : Nat} (h : ModW M n) (hn : n ≤ 6) : SmM M := by
  have l1 := h.r.1
  have l2 := h.s.1
  have l3 := h.g.1
  have l4 := h.c.2.1
  refine ⟨by omega, by omega, fun q hq => ?_, by omega, by omega, fun q hq => ?_⟩
  · have := h.s.2 q hq
    obtain ⟨a, b, c, d⟩ := this
    omega
  · have f := h.c.2.2 q hq
    exact ⟨by have := len_lnL q; have := f.ln; omega, f.sm⟩
theorem ModW.isM {M : Mod} {n : Nat} (h : ModW M n) (hn : n ≤ 6) : isM M = true := by
  have l1 := h.r.1
  have l2 := h.s.1
  have l3 := h.g.1
  have l4 := h.c.2.1
  have l5 := h.c.1
  have e1 : M.res.all okRes = true := List.all_eq_true.mpr fun q hq => by
    obtain ⟨a, b, c⟩ := h.r.2 q hq
    unfold okRes
    simp [isBn, a, b, c]
  have e2 : M.sto.all okSto = true := List.all_eq_true.mpr fun q hq => by
    obtain ⟨a, b, c, d⟩ := h.s.2 q hq
    unfold okSto
    have e : (q.2.all fun i => isBn (.int i) 0 (.int 99)) = true := List.all_eq_true.mpr fun v hv => by
      have := d v hv
      show (decide (0 ≤ v) && decide (v ≤ 99)) = true
      rw [decide_eq_true this.1, decide_eq_true this.2]; rfl
    rw [e, Bool.and_true]
    show ((decide (1 ≤ q.1) && decide (q.1 ≤ 4)) && (decide ((0 : Int) ≤ (q.2.length : Nat)) && decide (((q.2.length : Nat) : Int) ≤ q.1))) = true
    rw [decide_eq_true a, decide_eq_true b, decide_eq_true c, decide_eq_true (show (0 : Int) ≤ (q.2.length : Nat) by omega)]
    rfl
  have e3 : (M.gat.all fun g => decide (g ∈ gateL)) = true := List.all_eq_true.mpr fun q hq => decide_eq_true (h.g.2 q hq)
  have e4 : M.scr.all (okScr (limsOf M)) = true := List.all_eq_true.mpr fun q hq => (h.c.2.2 q hq).v.ok
  have e5 : meF M = true := List.all_eq_true.mpr fun q hq => by
    have v := (h.c.2.2 q hq).v
    rw [v.mp, Bool.and_true]
    refine List.all_eq_true.mpr fun r _ => decide_eq_true ?_
    rw [v.bal r 0 (Int.le_refl _)]
  unfold Dl.isM okM
  rw [e1, e2, e3, e4, e5, decide_eq_true (show (M.res.length : Int) ≤ 4 by omega), decide_eq_true (show (M.sto.length : Int) ≤ 3 by omega), decide_eq_true (show (M.gat.length : Int) ≤ 3 by omega), decide_eq_true (show (1 : Int) ≤ M.scr.length by omega), decide_eq_true (show (M.scr.length : Int) ≤ 6 by omega)]
  rfl
theorem WrM.all {M : Mod} (h : WrM M) : TxOk 900000 (modT M) := (tx_join nl_tx (n := 110) (j := 6100) h.tx h.ln).mono (by decide)
theorem ok_law {f : Addr} {fd : FuncData} (F : Fun K "law" "law" s_law f fd) (T : Txt K mg) {a : Nat} (ha : 3 ≤ a) {f1 f2 f3 f4 f5 f6 f7 : Addr} {fd1 fd2 fd3 fd4 fd5 fd6 fd7 : FuncData} (G_law_cell_at : GF P w K mg base "_law_cell_at" 1 f1 fd1 ["_law_script_here", "_law_k"] d_law_cell_at) (G_law_pen : GF P w K mg base "_law_pen" 1 f2 fd2 ["_law_cell"] d_law_pen) (G_law_model : GF P w K mg base "_law_model" a f3 fd3 ["_law_pen_here", "_law_most", "_law_room"] d_law_model) (G_law_wide : GF P w K mg base "_law_wide" 3 f4 fd4 ["_law_pen_here", "_law_model_here"] d_law_wide) (G_law_same : GF P w K mg base "_law_same" 1 f5 fd5 ["_law_one", "_law_other"] d_law_same) (G_format_model : GF P w K mg base "format_model" a f6 fd6 ["model"] d_format_model) (G_law_text : GF P w K mg base "_law_text" a f7 fd7 ["_law_model_here"] d_law_text) : FnD P w K mg base (a+1) f fd ["_law_script_here"] (dLaw) := by
  refine Dl.Fun.dok F sc_law _ (fun cdv A outer s H E B hp =>
      (dss_cons (ds_for hp rfl (di_range1 rfl T.b_range (da_cons (de_cb (cd_max2 rfl) rfl T.b_max boot_max (da_cons (de_int) (da_cons (de_cb (cd_min2 rfl) rfl T.b_min boot_min (da_cons (de_cb cd_len rfl T.b_len boot_len (da_cons (de_var (pv 0)) da_nil)) (da_cons (de_int) da_nil))) da_nil))) da_nil)) (dg_name (i := 1) sc_law.nd rfl (by first | exact Or.inl rfl | exact Or.inr rfl))
      (dss_cons (ds_set (i := 2) sc_law.nd rfl (by first | exact Or.inl rfl | exact Or.inr rfl) (de_gf G_law_pen B.hr B.gd B.tk rfl (da_cons (de_gf G_law_cell_at B.hr B.gd B.tk rfl (da_cons (de_var (pv 0)) (da_cons (de_var (pv 1)) da_nil)) (hk := by omega)) da_nil) (hk := by omega)))
      (dss_one (ds_for hp rfl (di_range1 rfl T.b_range (da_cons (de_int) da_nil)) (dg_name (i := 3) sc_law.nd rfl (by first | exact Or.inl rfl | exact Or.inr rfl))
      (dss_cons (ds_set (i := 4) sc_law.nd rfl (by first | exact Or.inl rfl | exact Or.inr rfl) (de_gf G_law_wide B.hr B.gd B.tk rfl (da_cons (de_var (pv 2)) (da_cons (de_gf G_law_model B.hr B.gd B.tk rfl (da_cons (de_var (pv 2)) (da_cons (de_int) (da_cons (de_int) da_nil))) (hk := by omega)) da_nil)) (hk := by omega)))
      (dss_one (ds_if (dt_not (dt_tru (de_gf G_law_same B.hr B.gd B.tk rfl (da_cons (de_gf G_format_model B.hr B.gd B.tk rfl (da_cons (de_var (pv 4)) da_nil) (hk := by omega)) (da_cons (de_bm md_join PySem.F.plainAttrs_str PySem.F.slot_str_join PySem.F.type_str_join (de_str) (da_cons (de_gf G_law_text B.hr B.gd B.tk rfl (da_cons (de_var (pv 4)) da_nil) (hk := by omega)) da_nil)) da_nil)) (hk := by omega))))
      (dss_one (ds_ret (de_bl)))
      dss_nil)))))))
      (dss_one (ds_ret (de_bl))))) (fun ys m F P h => ?_)
  obtain ⟨ns, rfl, hlen, h⟩ := h
  refine ⟨rfl, _, rfl, _, (ns.map PyData.int).map Y.d, rfl, .inr rfl, ?_⟩
  rw [List.length_map, List.length_map]
  refine ⟨_, _, rfl, _, _, rfl, ?_⟩
  have cap : ∀ l : Nat, (if (if (4 : Int) < (l : Int) then (4 : Int) else (l : Int)) > 1 then (if (4 : Int) < (l : Int) then (4 : Int) else (l : Int)) else 1) ≤ 4 ∧ 1 ≤ (if (if (4 : Int) < (l : Int) then (4 : Int) else (l : Int)) > 1 then (if (4 : Int) < (l : Int) then (4 : Int) else (l : Int)) else 1) := fun l => by
    constructor <;> (repeat' split) <;> omega
  refine ⟨_, rfl, by have := (cap ns.length).2; omega, by have := (cap ns.length).1; omega, ?_⟩
  refine ⟨fun _ r _ => ∃ o1 o2 o3 o4, r = [some (.r (ns.map PyData.int)), o1, o2, o3, o4], ⟨_, _, _, _, rfl⟩, ?_⟩
  rintro jc _ m1 hjc ⟨o1, o2, o3, o4, rfl⟩
  refine ⟨trivial, fun hlt => ?_, fun _ => h m1⟩
  refine ⟨_, rfl, _, rfl, ns, jc, by rw [Int.zero_add]; rfl, fun c0 => ⟨c0, rfl, fun pn l1 m2 _ hl1 hm2 => ?_⟩⟩
  refine ⟨2, rfl, by decide, by decide, ?_⟩
  refine ⟨fun _ r M => (∃ o1 o3 o4, r = [some (.r (ns.map PyData.int)), o1, some (.l pn), o3, o4]) ∧ ∃ l, PenL l ∧ M pn = some (.lst l), ⟨⟨_, _, _, rfl⟩, l1, hl1, hm2 _ _ mu_same⟩, ?_⟩
  rintro lap _ m3 hlap ⟨⟨p1, p3, p4, rfl⟩, l3, hl3, hp3⟩
  refine ⟨trivial, fun hlt3 => ?_, fun _ => ⟨_, _, _, _, rfl⟩⟩
  refine ⟨_, rfl, _, rfl, pn, l3, 4, 500, rfl, by decide, by decide, hl3, hp3, fun M l4 m4 hM hl4 hm4 => ?_⟩

  refine ⟨pn, l4, M, rfl, hM, hl4, hm4 _ _ mu_same, fun M2 l5 m5 hM2 hl5 hm5 => ?_⟩
  have hw := hM2.wr (Nat.le_refl _)
  refine ⟨_, rfl, M2, rfl, hM2.sm (Nat.le_refl _), hM2.isM (Nat.le_refl _), hw, fun m6 hm6 => ?_⟩
  refine ⟨rfl, _, rfl, M2, rfl, hw, fun p5 m7 hp5 hm7 => ?_⟩
  have hl7 := hm7 _ _ (mu_same (a := p5) (m := m6) (o := .lst (lnY (modL M2))))
  refine ⟨_, _, modL M2, rfl, rfl, .inl hl7, join_room (k := 1) (n := 110) (j := 6100) (by decide +kernel) hw.tx hw.ln (by decide), ?_⟩
  refine ⟨modT M2, rfl, hw.all, fun m8 hm8 => ⟨_, rfl, iteF ?_⟩⟩
  exact ⟨⟨_, _, _, rfl⟩, l5, hl5, hm8 _ _ (((Mle.new hp5).trans hm7) _ _ (hm6 _ _ (hm5 _ _ mu_same)))⟩
end
/-! ### what the top has written -/
theorem all_mk {l : PySem.W.OpenLaw} {w : World} {K : PySem.W.Frag} {h : Heap} {mg : Str → Option Value} {fa : Addr} (X : K.In h) (G : h.Ns mainGlobals mg) (hfa : mg "law" = some (.ref fa))
    {t_LAST_ITEM : Tok}
    {t_LAST_MARK : Tok}
    {t_LAST_RANK : Tok}
    {t_MOST_CAPACITY : Tok}
    {t_MOST_DEPTH : Tok}
    {t_MOST_GATES : Tok}
    {t_MOST_RESOURCES : Tok}
    {t_MOST_SCRIPTS : Tok}
    {t_MOST_STORES : Tok}
    {t_MOST_TIMES : Tok}
    {pDISCIPLINES : Addr} {odpDISCIPLINES : Option Addr} {itpDISCIPLINES : Array Value} {npDISCIPLINES : Nat} {slpDISCIPLINES : Array (Option Value)}
    {pGATE_WORDS : Addr} {odpGATE_WORDS : Option Addr} {itpGATE_WORDS : Array Value} {npGATE_WORDS : Nat} {slpGATE_WORDS : Array (Option Value)}
    {aK : Addr} {esK : Array DictEntry} {nK : Nat}
    {pk_wait : Addr} {odpk_wait : Option Addr} {itpk_wait : Array Value} {npk_wait : Nat} {slpk_wait : Array (Option Value)}
    {pk_take : Addr} {odpk_take : Option Addr} {itpk_take : Array Value} {npk_take : Nat} {slpk_take : Array (Option Value)}
    {pk_give : Addr} {odpk_give : Option Addr} {itpk_give : Array Value} {npk_give : Nat} {slpk_give : Array (Option Value)}
    {pk_put : Addr} {odpk_put : Option Addr} {itpk_put : Array Value} {npk_put : Nat} {slpk_put : Array (Option Value)}
    {pk_get : Addr} {odpk_get : Option Addr} {itpk_get : Array Value} {npk_get : Nat} {slpk_get : Array (Option Value)}
    {pk_pass : Addr} {odpk_pass : Option Addr} {itpk_pass : Array Value} {npk_pass : Nat} {slpk_pass : Array (Option Value)}
    {pk_open : Addr} {odpk_open : Option Addr} {itpk_open : Array Value} {npk_open : Nat} {slpk_open : Array (Option Value)}
    {pk_shut : Addr} {odpk_shut : Option Addr} {itpk_shut : Array Value} {npk_shut : Nat} {slpk_shut : Array (Option Value)}
    {pk_rouse : Addr} {odpk_rouse : Option Addr} {itpk_rouse : Array Value} {npk_rouse : Nat} {slpk_rouse : Array (Option Value)}
    {pk_mark : Addr} {odpk_mark : Option Addr} {itpk_mark : Array Value} {npk_mark : Nat} {slpk_mark : Array (Option Value)}
    {CL : Addr} {t_CLMOST_UNITS : Tok}
    {f_is_between : Addr} {od_is_between an_is_between : Option Addr} {sl_is_between : Array (Option Value)} {oc_is_between kV_is_between dc_is_between pm_is_between ct_is_between : Value}
    {cd_is_between : Value}
    {f_is_tuple : Addr} {od_is_tuple an_is_tuple : Option Addr} {sl_is_tuple : Array (Option Value)} {oc_is_tuple kV_is_tuple dc_is_tuple pm_is_tuple ct_is_tuple : Value}
    {cd_is_tuple : Value}
    {f_is_resource : Addr} {od_is_resource an_is_resource : Option Addr} {sl_is_resource : Array (Option Value)} {oc_is_resource kV_is_resource dc_is_resource pm_is_resource ct_is_resource : Value}
    {cd_is_resource : Value}
    {f_is_store : Addr} {od_is_store an_is_store : Option Addr} {sl_is_store : Array (Option Value)} {oc_is_store kV_is_store dc_is_store pm_is_store ct_is_store : Value}
    {cd_is_store : Value}
    {f_last_numbers : Addr} {od_last_numbers an_last_numbers : Option Addr} {sl_last_numbers : Array (Option Value)} {oc_last_numbers kV_last_numbers dc_last_numbers pm_last_numbers ct_last_numbers : Value}
    {cd_last_numbers : Value}
    {f_is_plain : Addr} {od_is_plain an_is_plain : Option Addr} {sl_is_plain : Array (Option Value)} {oc_is_plain kV_is_plain dc_is_plain pm_is_plain ct_is_plain : Value}
    {cd_is_plain : Value}
    {f_is_instruction : Addr} {od_is_instruction an_is_instruction : Option Addr} {sl_is_instruction : Array (Option Value)} {oc_is_instruction kV_is_instruction dc_is_instruction pm_is_instruction ct_is_instruction : Value}
    {cd_is_instruction : Value}
    {f_is_repeat : Addr} {od_is_repeat an_is_repeat : Option Addr} {sl_is_repeat : Array (Option Value)} {oc_is_repeat kV_is_repeat dc_is_repeat pm_is_repeat ct_is_repeat : Value}
    {cd_is_repeat : Value}
    {f_are_instructions : Addr} {od_are_instructions an_are_instructions : Option Addr} {sl_are_instructions : Array (Option Value)} {oc_are_instructions kV_are_instructions dc_are_instructions pm_are_instructions ct_are_instructions : Value}
    {cd_are_instructions : Value}
    {f_is_body : Addr} {od_is_body an_is_body : Option Addr} {sl_is_body : Array (Option Value)} {oc_is_body kV_is_body dc_is_body pm_is_body ct_is_body : Value}
    {cd_is_body : Value}
    {f_is_forever : Addr} {od_is_forever an_is_forever : Option Addr} {sl_is_forever : Array (Option Value)} {oc_is_forever kV_is_forever dc_is_forever pm_is_forever ct_is_forever : Value}
    {cd_is_forever : Value}
    {f_is_script : Addr} {od_is_script an_is_script : Option Addr} {sl_is_script : Array (Option Value)} {oc_is_script kV_is_script dc_is_script pm_is_script ct_is_script : Value}
    {cd_is_script : Value}
    {f_are_scripts : Addr} {od_are_scripts an_are_scripts : Option Addr} {sl_are_scripts : Array (Option Value)} {oc_are_scripts kV_are_scripts dc_are_scripts pm_are_scripts ct_are_scripts : Value}
    {cd_are_scripts : Value}
    {f_has_parts : Addr} {od_has_parts an_has_parts : Option Addr} {sl_has_parts : Array (Option Value)} {oc_has_parts kV_has_parts dc_has_parts pm_has_parts ct_has_parts : Value}
    {cd_has_parts : Value}
    {f_units_after : Addr} {od_units_after an_units_after : Option Addr} {sl_units_after : Array (Option Value)} {oc_units_after kV_units_after dc_units_after pm_units_after ct_units_after : Value}
    {cd_units_after : Value}
    {f_is_balanced : Addr} {od_is_balanced an_is_balanced : Option Addr} {sl_is_balanced : Array (Option Value)} {oc_is_balanced kV_is_balanced dc_is_balanced pm_is_balanced ct_is_balanced : Value}
    {cd_is_balanced : Value}
    {f_time_of : Addr} {od_time_of an_time_of : Option Addr} {sl_time_of : Array (Option Value)} {oc_time_of kV_time_of dc_time_of pm_time_of ct_time_of : Value}
    {cd_time_of : Value}
    {f_makes_progress : Addr} {od_makes_progress an_makes_progress : Option Addr} {sl_makes_progress : Array (Option Value)} {oc_makes_progress kV_makes_progress dc_makes_progress pm_makes_progress ct_makes_progress : Value}
    {cd_makes_progress : Value}
    {f_meets_conditions : Addr} {od_meets_conditions an_meets_conditions : Option Addr} {sl_meets_conditions : Array (Option Value)} {oc_meets_conditions kV_meets_conditions dc_meets_conditions pm_meets_conditions ct_meets_conditions : Value}
    {cd_meets_conditions : Value}
    {f_is_model : Addr} {od_is_model an_is_model : Option Addr} {sl_is_model : Array (Option Value)} {oc_is_model kV_is_model dc_is_model pm_is_model ct_is_model : Value}
    {cd_is_model : Value}
    {f_check_model : Addr} {od_check_model an_check_model : Option Addr} {sl_check_model : Array (Option Value)} {oc_check_model kV_check_model dc_check_model pm_check_model ct_check_model : Value}
    {cd_check_model : Value}
    {f_join_parts : Addr} {od_join_parts an_join_parts : Option Addr} {sl_join_parts : Array (Option Value)} {oc_join_parts kV_join_parts dc_join_parts pm_join_parts ct_join_parts : Value}
    {cd_join_parts : Value}
    {f_script_lines : Addr} {od_script_lines an_script_lines : Option Addr} {sl_script_lines : Array (Option Value)} {oc_script_lines kV_script_lines dc_script_lines pm_script_lines ct_script_lines : Value}
    {cd_script_lines : Value}
    {f_format_model : Addr} {od_format_model an_format_model : Option Addr} {sl_format_model : Array (Option Value)} {oc_format_model kV_format_model dc_format_model pm_format_model ct_format_model : Value}
    {cd_format_model : Value}
    {f_law_cell_at : Addr} {od_law_cell_at an_law_cell_at : Option Addr} {sl_law_cell_at : Array (Option Value)} {oc_law_cell_at kV_law_cell_at dc_law_cell_at pm_law_cell_at ct_law_cell_at : Value}
    {cd_law_cell_at : Value}
    {f_law_pen : Addr} {od_law_pen an_law_pen : Option Addr} {sl_law_pen : Array (Option Value)} {oc_law_pen kV_law_pen dc_law_pen pm_law_pen ct_law_pen : Value}
    {cd_law_pen : Value}
    {f_law_draw : Addr} {od_law_draw an_law_draw : Option Addr} {sl_law_draw : Array (Option Value)} {oc_law_draw kV_law_draw dc_law_draw pm_law_draw ct_law_draw : Value}
    {cd_law_draw : Value}
    {f_law_pick : Addr} {od_law_pick an_law_pick : Option Addr} {sl_law_pick : Array (Option Value)} {oc_law_pick kV_law_pick dc_law_pick pm_law_pick ct_law_pick : Value}
    {cd_law_pick : Value}
    {f_law_chunk : Addr} {od_law_chunk an_law_chunk : Option Addr} {sl_law_chunk : Array (Option Value)} {oc_law_chunk kV_law_chunk dc_law_chunk pm_law_chunk ct_law_chunk : Value}
    {cd_law_chunk : Value}
    {f_law_body : Addr} {od_law_body an_law_body : Option Addr} {sl_law_body : Array (Option Value)} {oc_law_body kV_law_body dc_law_body pm_law_body ct_law_body : Value}
    {cd_law_body : Value}
    {f_law_script : Addr} {od_law_script an_law_script : Option Addr} {sl_law_script : Array (Option Value)} {oc_law_script kV_law_script dc_law_script pm_law_script ct_law_script : Value}
    {cd_law_script : Value}
    {f_law_has_rouse : Addr} {od_law_has_rouse an_law_has_rouse : Option Addr} {sl_law_has_rouse : Array (Option Value)} {oc_law_has_rouse kV_law_has_rouse dc_law_has_rouse pm_law_has_rouse ct_law_has_rouse : Value}
    {cd_law_has_rouse : Value}
    {f_law_pass_time : Addr} {od_law_pass_time an_law_pass_time : Option Addr} {sl_law_pass_time : Array (Option Value)} {oc_law_pass_time kV_law_pass_time dc_law_pass_time pm_law_pass_time ct_law_pass_time : Value}
    {cd_law_pass_time : Value}
    {f_law_cost : Addr} {od_law_cost an_law_cost : Option Addr} {sl_law_cost : Array (Option Value)} {oc_law_cost kV_law_cost dc_law_cost pm_law_cost ct_law_cost : Value}
    {cd_law_cost : Value}
    {f_law_fitted : Addr} {od_law_fitted an_law_fitted : Option Addr} {sl_law_fitted : Array (Option Value)} {oc_law_fitted kV_law_fitted dc_law_fitted pm_law_fitted ct_law_fitted : Value}
    {cd_law_fitted : Value}
    {f_law_store : Addr} {od_law_store an_law_store : Option Addr} {sl_law_store : Array (Option Value)} {oc_law_store kV_law_store dc_law_store pm_law_store ct_law_store : Value}
    {cd_law_store : Value}
    {f_law_model : Addr} {od_law_model an_law_model : Option Addr} {sl_law_model : Array (Option Value)} {oc_law_model kV_law_model dc_law_model pm_law_model ct_law_model : Value}
    {cd_law_model : Value}
    {f_law_lines : Addr} {od_law_lines an_law_lines : Option Addr} {sl_law_lines : Array (Option Value)} {oc_law_lines kV_law_lines dc_law_lines pm_law_lines ct_law_lines : Value}
    {cd_law_lines : Value}
    {f_law_text : Addr} {od_law_text an_law_text : Option Addr} {sl_law_text : Array (Option Value)} {oc_law_text kV_law_text dc_law_text pm_law_text ct_law_text : Value}
    {cd_law_text : Value}
    {f_law_same : Addr} {od_law_same an_law_same : Option Addr} {sl_law_same : Array (Option Value)} {oc_law_same kV_law_same dc_law_same pm_law_same ct_law_same : Value}
    {cd_law_same : Value}
    {f_law_wide : Addr} {od_law_wide an_law_wide : Option Addr} {sl_law_wide : Array (Option Value)} {oc_law_wide kV_law_wide dc_law_wide pm_law_wide ct_law_wide : Value}
    {cd_law_wide : Value}
    {f_law : Addr} {od_law an_law : Option Addr} {sl_law : Array (Option Value)} {oc_law kV_law dc_law pm_law ct_law : Value}
    {cd_law : Value}
    (v_LAST_ITEM : PySem.W.nsIn K mainGlobals "LAST_ITEM" = some (some (.int 99 t_LAST_ITEM)))
    (v_LAST_MARK : PySem.W.nsIn K mainGlobals "LAST_MARK" = some (some (.int 999 t_LAST_MARK)))
    (v_LAST_RANK : PySem.W.nsIn K mainGlobals "LAST_RANK" = some (some (.int 9 t_LAST_RANK)))
    (v_MOST_CAPACITY : PySem.W.nsIn K mainGlobals "MOST_CAPACITY" = some (some (.int 4 t_MOST_CAPACITY)))
    (v_MOST_DEPTH : PySem.W.nsIn K mainGlobals "MOST_DEPTH" = some (some (.int 3 t_MOST_DEPTH)))
    (v_MOST_GATES : PySem.W.nsIn K mainGlobals "MOST_GATES" = some (some (.int 3 t_MOST_GATES)))
    (v_MOST_RESOURCES : PySem.W.nsIn K mainGlobals "MOST_RESOURCES" = some (some (.int 4 t_MOST_RESOURCES)))
    (v_MOST_SCRIPTS : PySem.W.nsIn K mainGlobals "MOST_SCRIPTS" = some (some (.int 6 t_MOST_SCRIPTS)))
    (v_MOST_STORES : PySem.W.nsIn K mainGlobals "MOST_STORES" = some (some (.int 3 t_MOST_STORES)))
    (v_MOST_TIMES : PySem.W.nsIn K mainGlobals "MOST_TIMES" = some (some (.int 5 t_MOST_TIMES)))
    (a_DISCIPLINES : PySem.W.nsIn K mainGlobals "DISCIPLINES" = some (some (.ref pDISCIPLINES)))
    (l_DISCIPLINES : K.lookup pDISCIPLINES = some ⟨.type "tuple", odpDISCIPLINES, .seq itpDISCIPLINES npDISCIPLINES, slpDISCIPLINES⟩)
    (s_DISCIPLINES : itpDISCIPLINES.size ≤ sizeLine)
    (x_DISCIPLINES : strsOf itpDISCIPLINES.toList = some discL)
    (a_GATE_WORDS : PySem.W.nsIn K mainGlobals "GATE_WORDS" = some (some (.ref pGATE_WORDS)))
    (l_GATE_WORDS : K.lookup pGATE_WORDS = some ⟨.type "tuple", odpGATE_WORDS, .seq itpGATE_WORDS npGATE_WORDS, slpGATE_WORDS⟩)
    (s_GATE_WORDS : itpGATE_WORDS.size ≤ sizeLine)
    (x_GATE_WORDS : strsOf itpGATE_WORDS.toList = some gateL)
    (a_KINDS : PySem.W.nsIn K mainGlobals "KINDS" = some (some (.ref aK)))
    (l_KINDS : K.lookup aK = some ⟨.type "dict", none, .dict esK nK, #[]⟩)
    (y_KINDS : PySem.W.KeysLit w.params esK.toList)
    (o_KINDS : (aK == sysModules) = false)
    (nf_KINDS : PySem.W.nsIn K aK "forever" = some none)
    (nr_KINDS : PySem.W.nsIn K aK "repeat" = some none)
    (kt_wait : PySem.W.nsIn K aK "wait" = some (some (.ref pk_wait)))
    (l_k_wait : K.lookup pk_wait = some ⟨.type "tuple", odpk_wait, .seq itpk_wait npk_wait, slpk_wait⟩)
    (s_k_wait : itpk_wait.size ≤ sizeLine)
    (x_k_wait : strsOf itpk_wait.toList = some (["time"] : List Str))
    (kt_take : PySem.W.nsIn K aK "take" = some (some (.ref pk_take)))
    (l_k_take : K.lookup pk_take = some ⟨.type "tuple", odpk_take, .seq itpk_take npk_take, slpk_take⟩)
    (s_k_take : itpk_take.size ≤ sizeLine)
    (x_k_take : strsOf itpk_take.toList = some (["resource", "rank"] : List Str))
    (kt_give : PySem.W.nsIn K aK "give" = some (some (.ref pk_give)))
    (l_k_give : K.lookup pk_give = some ⟨.type "tuple", odpk_give, .seq itpk_give npk_give, slpk_give⟩)
    (s_k_give : itpk_give.size ≤ sizeLine)
    (x_k_give : strsOf itpk_give.toList = some (["resource"] : List Str))
    (kt_put : PySem.W.nsIn K aK "put" = some (some (.ref pk_put)))
    (l_k_put : K.lookup pk_put = some ⟨.type "tuple", odpk_put, .seq itpk_put npk_put, slpk_put⟩)
    (s_k_put : itpk_put.size ≤ sizeLine)
    (x_k_put : strsOf itpk_put.toList = some (["store", "item"] : List Str))
    (kt_get : PySem.W.nsIn K aK "get" = some (some (.ref pk_get)))
    (l_k_get : K.lookup pk_get = some ⟨.type "tuple", odpk_get, .seq itpk_get npk_get, slpk_get⟩)
    (s_k_get : itpk_get.size ≤ sizeLine)
    (x_k_get : strsOf itpk_get.toList = some (["store"] : List Str))
    (kt_pass : PySem.W.nsIn K aK "pass" = some (some (.ref pk_pass)))
    (l_k_pass : K.lookup pk_pass = some ⟨.type "tuple", odpk_pass, .seq itpk_pass npk_pass, slpk_pass⟩)
    (s_k_pass : itpk_pass.size ≤ sizeLine)
    (x_k_pass : strsOf itpk_pass.toList = some (["gate"] : List Str))
    (kt_open : PySem.W.nsIn K aK "open" = some (some (.ref pk_open)))
    (l_k_open : K.lookup pk_open = some ⟨.type "tuple", odpk_open, .seq itpk_open npk_open, slpk_open⟩)
    (s_k_open : itpk_open.size ≤ sizeLine)
    (x_k_open : strsOf itpk_open.toList = some (["gate"] : List Str))
    (kt_shut : PySem.W.nsIn K aK "shut" = some (some (.ref pk_shut)))
    (l_k_shut : K.lookup pk_shut = some ⟨.type "tuple", odpk_shut, .seq itpk_shut npk_shut, slpk_shut⟩)
    (s_k_shut : itpk_shut.size ≤ sizeLine)
    (x_k_shut : strsOf itpk_shut.toList = some (["gate"] : List Str))
    (kt_rouse : PySem.W.nsIn K aK "rouse" = some (some (.ref pk_rouse)))
    (l_k_rouse : K.lookup pk_rouse = some ⟨.type "tuple", odpk_rouse, .seq itpk_rouse npk_rouse, slpk_rouse⟩)
    (s_k_rouse : itpk_rouse.size ≤ sizeLine)
    (x_k_rouse : strsOf itpk_rouse.toList = some (["process"] : List Str))
    (kt_mark : PySem.W.nsIn K aK "mark" = some (some (.ref pk_mark)))
    (l_k_mark : K.lookup pk_mark = some ⟨.type "tuple", odpk_mark, .seq itpk_mark npk_mark, slpk_mark⟩)
    (s_k_mark : itpk_mark.size ≤ sizeLine)
    (x_k_mark : strsOf itpk_mark.toList = some (["mark"] : List Str))
    (a_CL : PySem.W.nsIn K mainGlobals "Line" = some (some (.ref CL)))
    (r_CL : PySem.W.readsIn K CL (.type "type") = true)
    (g_CL : PySem.W.specialIn K (.ref CL) "__getattribute__" = some (some (.builtin "type.__getattribute__")))
    (v_CLMOST_UNITS : PySem.W.findCls K (.ref CL) (.type "type") "MOST_UNITS" = some (.val (.int 3 t_CLMOST_UNITS)))
    (z_isinstance : PySem.W.nsIn K mainGlobals "isinstance" = some none)
    (z_int : PySem.W.nsIn K mainGlobals "int" = some none)
    (z_bool : PySem.W.nsIn K mainGlobals "bool" = some none)
    (z_len : PySem.W.nsIn K mainGlobals "len" = some none)
    (z_tuple : PySem.W.nsIn K mainGlobals "tuple" = some none)
    (z_str : PySem.W.nsIn K mainGlobals "str" = some none)
    (z_all : PySem.W.nsIn K mainGlobals "all" = some none)
    (z_range : PySem.W.nsIn K mainGlobals "range" = some none)
    (z_zip : PySem.W.nsIn K mainGlobals "zip" = some none)
    (z_repr : PySem.W.nsIn K mainGlobals "repr" = some none)
    (z_max : PySem.W.nsIn K mainGlobals "max" = some none)
    (z_min : PySem.W.nsIn K mainGlobals "min" = some none)
    (z_enumerate : PySem.W.nsIn K mainGlobals "enumerate" = some none)
    (z_list : PySem.W.nsIn K mainGlobals "list" = some none)
    (z_sum : PySem.W.nsIn K mainGlobals "sum" = some none)
    (z_any : PySem.W.nsIn K mainGlobals "any" = some none)
    (a_is_between : PySem.W.nsIn K mainGlobals "is_between" = some (some (.ref f_is_between)))
    (l_is_between : K.lookup f_is_between = some ⟨oc_is_between, od_is_between, .func (PySem.W.fnOf "is_between" "is_between" (defArgs s_is_between) (defBody s_is_between) (defScope s_is_between) .none kV_is_between dc_is_between pm_is_between an_is_between cd_is_between ct_is_between), sl_is_between⟩)
    (c_is_between : PySem.W.codeIn K cd_is_between "is_between" = true)
    (k_is_between : PySem.W.keepIn K (.ref f_is_between) = true)
    (a_is_tuple : PySem.W.nsIn K mainGlobals "_is_tuple" = some (some (.ref f_is_tuple)))
    (l_is_tuple : K.lookup f_is_tuple = some ⟨oc_is_tuple, od_is_tuple, .func (PySem.W.fnOf "_is_tuple" "_is_tuple" (defArgs s_is_tuple) (defBody s_is_tuple) (defScope s_is_tuple) .none kV_is_tuple dc_is_tuple pm_is_tuple an_is_tuple cd_is_tuple ct_is_tuple), sl_is_tuple⟩)
    (c_is_tuple : PySem.W.codeIn K cd_is_tuple "_is_tuple" = true)
    (k_is_tuple : PySem.W.keepIn K (.ref f_is_tuple) = true)
    (a_is_resource : PySem.W.nsIn K mainGlobals "is_resource" = some (some (.ref f_is_resource)))
    (l_is_resource : K.lookup f_is_resource = some ⟨oc_is_resource, od_is_resource, .func (PySem.W.fnOf "is_resource" "is_resource" (defArgs s_is_resource) (defBody s_is_resource) (defScope s_is_resource) .none kV_is_resource dc_is_resource pm_is_resource an_is_resource cd_is_resource ct_is_resource), sl_is_resource⟩)
    (c_is_resource : PySem.W.codeIn K cd_is_resource "is_resource" = true)
    (k_is_resource : PySem.W.keepIn K (.ref f_is_resource) = true)
    (a_is_store : PySem.W.nsIn K mainGlobals "is_store" = some (some (.ref f_is_store)))
    (l_is_store : K.lookup f_is_store = some ⟨oc_is_store, od_is_store, .func (PySem.W.fnOf "is_store" "is_store" (defArgs s_is_store) (defBody s_is_store) (defScope s_is_store) .none kV_is_store dc_is_store pm_is_store an_is_store cd_is_store ct_is_store), sl_is_store⟩)
    (c_is_store : PySem.W.codeIn K cd_is_store "is_store" = true)
    (k_is_store : PySem.W.keepIn K (.ref f_is_store) = true)
    (a_last_numbers : PySem.W.nsIn K mainGlobals "last_numbers" = some (some (.ref f_last_numbers)))
    (l_last_numbers : K.lookup f_last_numbers = some ⟨oc_last_numbers, od_last_numbers, .func (PySem.W.fnOf "last_numbers" "last_numbers" (defArgs s_last_numbers) (defBody s_last_numbers) (defScope s_last_numbers) .none kV_last_numbers dc_last_numbers pm_last_numbers an_last_numbers cd_last_numbers ct_last_numbers), sl_last_numbers⟩)
    (c_last_numbers : PySem.W.codeIn K cd_last_numbers "last_numbers" = true)
    (k_last_numbers : PySem.W.keepIn K (.ref f_last_numbers) = true)
    (a_is_plain : PySem.W.nsIn K mainGlobals "is_plain" = some (some (.ref f_is_plain)))
    (l_is_plain : K.lookup f_is_plain = some ⟨oc_is_plain, od_is_plain, .func (PySem.W.fnOf "is_plain" "is_plain" (defArgs s_is_plain) (defBody s_is_plain) (defScope s_is_plain) .none kV_is_plain dc_is_plain pm_is_plain an_is_plain cd_is_plain ct_is_plain), sl_is_plain⟩)
    (c_is_plain : PySem.W.codeIn K cd_is_plain "is_plain" = true)
    (k_is_plain : PySem.W.keepIn K (.ref f_is_plain) = true)
    (a_is_instruction : PySem.W.nsIn K mainGlobals "_is_instruction" = some (some (.ref f_is_instruction)))
    (l_is_instruction : K.lookup f_is_instruction = some ⟨oc_is_instruction, od_is_instruction, .func (PySem.W.fnOf "_is_instruction" "_is_instruction" (defArgs s_is_instruction) (defBody s_is_instruction) (defScope s_is_instruction) .none kV_is_instruction dc_is_instruction pm_is_instruction an_is_instruction cd_is_instruction ct_is_instruction), sl_is_instruction⟩)
    (c_is_instruction : PySem.W.codeIn K cd_is_instruction "_is_instruction" = true)
    (k_is_instruction : PySem.W.keepIn K (.ref f_is_instruction) = true)
    (a_is_repeat : PySem.W.nsIn K mainGlobals "_is_repeat" = some (some (.ref f_is_repeat)))
    (l_is_repeat : K.lookup f_is_repeat = some ⟨oc_is_repeat, od_is_repeat, .func (PySem.W.fnOf "_is_repeat" "_is_repeat" (defArgs s_is_repeat) (defBody s_is_repeat) (defScope s_is_repeat) .none kV_is_repeat dc_is_repeat pm_is_repeat an_is_repeat cd_is_repeat ct_is_repeat), sl_is_repeat⟩)
    (c_is_repeat : PySem.W.codeIn K cd_is_repeat "_is_repeat" = true)
    (k_is_repeat : PySem.W.keepIn K (.ref f_is_repeat) = true)
    (a_are_instructions : PySem.W.nsIn K mainGlobals "_are_instructions" = some (some (.ref f_are_instructions)))
    (l_are_instructions : K.lookup f_are_instructions = some ⟨oc_are_instructions, od_are_instructions, .func (PySem.W.fnOf "_are_instructions" "_are_instructions" (defArgs s_are_instructions) (defBody s_are_instructions) (defScope s_are_instructions) .none kV_are_instructions dc_are_instructions pm_are_instructions an_are_instructions cd_are_instructions ct_are_instructions), sl_are_instructions⟩)
    (c_are_instructions : PySem.W.codeIn K cd_are_instructions "_are_instructions" = true)
    (k_are_instructions : PySem.W.keepIn K (.ref f_are_instructions) = true)
    (a_is_body : PySem.W.nsIn K mainGlobals "_is_body" = some (some (.ref f_is_body)))
    (l_is_body : K.lookup f_is_body = some ⟨oc_is_body, od_is_body, .func (PySem.W.fnOf "_is_body" "_is_body" (defArgs s_is_body) (defBody s_is_body) (defScope s_is_body) .none kV_is_body dc_is_body pm_is_body an_is_body cd_is_body ct_is_body), sl_is_body⟩)
    (c_is_body : PySem.W.codeIn K cd_is_body "_is_body" = true)
    (k_is_body : PySem.W.keepIn K (.ref f_is_body) = true)
    (a_is_forever : PySem.W.nsIn K mainGlobals "_is_forever" = some (some (.ref f_is_forever)))
    (l_is_forever : K.lookup f_is_forever = some ⟨oc_is_forever, od_is_forever, .func (PySem.W.fnOf "_is_forever" "_is_forever" (defArgs s_is_forever) (defBody s_is_forever) (defScope s_is_forever) .none kV_is_forever dc_is_forever pm_is_forever an_is_forever cd_is_forever ct_is_forever), sl_is_forever⟩)
    (c_is_forever : PySem.W.codeIn K cd_is_forever "_is_forever" = true)
    (k_is_forever : PySem.W.keepIn K (.ref f_is_forever) = true)
    (a_is_script : PySem.W.nsIn K mainGlobals "_is_script" = some (some (.ref f_is_script)))
    (l_is_script : K.lookup f_is_script = some ⟨oc_is_script, od_is_script, .func (PySem.W.fnOf "_is_script" "_is_script" (defArgs s_is_script) (defBody s_is_script) (defScope s_is_script) .none kV_is_script dc_is_script pm_is_script an_is_script cd_is_script ct_is_script), sl_is_script⟩)
    (c_is_script : PySem.W.codeIn K cd_is_script "_is_script" = true)
    (k_is_script : PySem.W.keepIn K (.ref f_is_script) = true)
    (a_are_scripts : PySem.W.nsIn K mainGlobals "_are_scripts" = some (some (.ref f_are_scripts)))
    (l_are_scripts : K.lookup f_are_scripts = some ⟨oc_are_scripts, od_are_scripts, .func (PySem.W.fnOf "_are_scripts" "_are_scripts" (defArgs s_are_scripts) (defBody s_are_scripts) (defScope s_are_scripts) .none kV_are_scripts dc_are_scripts pm_are_scripts an_are_scripts cd_are_scripts ct_are_scripts), sl_are_scripts⟩)
    (c_are_scripts : PySem.W.codeIn K cd_are_scripts "_are_scripts" = true)
    (k_are_scripts : PySem.W.keepIn K (.ref f_are_scripts) = true)
    (a_has_parts : PySem.W.nsIn K mainGlobals "has_parts" = some (some (.ref f_has_parts)))
    (l_has_parts : K.lookup f_has_parts = some ⟨oc_has_parts, od_has_parts, .func (PySem.W.fnOf "has_parts" "has_parts" (defArgs s_has_parts) (defBody s_has_parts) (defScope s_has_parts) .none kV_has_parts dc_has_parts pm_has_parts an_has_parts cd_has_parts ct_has_parts), sl_has_parts⟩)
    (c_has_parts : PySem.W.codeIn K cd_has_parts "has_parts" = true)
    (k_has_parts : PySem.W.keepIn K (.ref f_has_parts) = true)
    (a_units_after : PySem.W.nsIn K mainGlobals "_units_after" = some (some (.ref f_units_after)))
    (l_units_after : K.lookup f_units_after = some ⟨oc_units_after, od_units_after, .func (PySem.W.fnOf "_units_after" "_units_after" (defArgs s_units_after) (defBody s_units_after) (defScope s_units_after) .none kV_units_after dc_units_after pm_units_after an_units_after cd_units_after ct_units_after), sl_units_after⟩)
    (c_units_after : PySem.W.codeIn K cd_units_after "_units_after" = true)
    (k_units_after : PySem.W.keepIn K (.ref f_units_after) = true)
    (a_is_balanced : PySem.W.nsIn K mainGlobals "_is_balanced" = some (some (.ref f_is_balanced)))
    (l_is_balanced : K.lookup f_is_balanced = some ⟨oc_is_balanced, od_is_balanced, .func (PySem.W.fnOf "_is_balanced" "_is_balanced" (defArgs s_is_balanced) (defBody s_is_balanced) (defScope s_is_balanced) .none kV_is_balanced dc_is_balanced pm_is_balanced an_is_balanced cd_is_balanced ct_is_balanced), sl_is_balanced⟩)
    (c_is_balanced : PySem.W.codeIn K cd_is_balanced "_is_balanced" = true)
    (k_is_balanced : PySem.W.keepIn K (.ref f_is_balanced) = true)
    (a_time_of : PySem.W.nsIn K mainGlobals "_time_of" = some (some (.ref f_time_of)))
    (l_time_of : K.lookup f_time_of = some ⟨oc_time_of, od_time_of, .func (PySem.W.fnOf "_time_of" "_time_of" (defArgs s_time_of) (defBody s_time_of) (defScope s_time_of) .none kV_time_of dc_time_of pm_time_of an_time_of cd_time_of ct_time_of), sl_time_of⟩)
    (c_time_of : PySem.W.codeIn K cd_time_of "_time_of" = true)
    (k_time_of : PySem.W.keepIn K (.ref f_time_of) = true)
    (a_makes_progress : PySem.W.nsIn K mainGlobals "_makes_progress" = some (some (.ref f_makes_progress)))
    (l_makes_progress : K.lookup f_makes_progress = some ⟨oc_makes_progress, od_makes_progress, .func (PySem.W.fnOf "_makes_progress" "_makes_progress" (defArgs s_makes_progress) (defBody s_makes_progress) (defScope s_makes_progress) .none kV_makes_progress dc_makes_progress pm_makes_progress an_makes_progress cd_makes_progress ct_makes_progress), sl_makes_progress⟩)
    (c_makes_progress : PySem.W.codeIn K cd_makes_progress "_makes_progress" = true)
    (k_makes_progress : PySem.W.keepIn K (.ref f_makes_progress) = true)
    (a_meets_conditions : PySem.W.nsIn K mainGlobals "meets_conditions" = some (some (.ref f_meets_conditions)))
    (l_meets_conditions : K.lookup f_meets_conditions = some ⟨oc_meets_conditions, od_meets_conditions, .func (PySem.W.fnOf "meets_conditions" "meets_conditions" (defArgs s_meets_conditions) (defBody s_meets_conditions) (defScope s_meets_conditions) .none kV_meets_conditions dc_meets_conditions pm_meets_conditions an_meets_conditions cd_meets_conditions ct_meets_conditions), sl_meets_conditions⟩)
    (c_meets_conditions : PySem.W.codeIn K cd_meets_conditions "meets_conditions" = true)
    (k_meets_conditions : PySem.W.keepIn K (.ref f_meets_conditions) = true)
    (a_is_model : PySem.W.nsIn K mainGlobals "is_model" = some (some (.ref f_is_model)))
    (l_is_model : K.lookup f_is_model = some ⟨oc_is_model, od_is_model, .func (PySem.W.fnOf "is_model" "is_model" (defArgs s_is_model) (defBody s_is_model) (defScope s_is_model) .none kV_is_model dc_is_model pm_is_model an_is_model cd_is_model ct_is_model), sl_is_model⟩)
    (c_is_model : PySem.W.codeIn K cd_is_model "is_model" = true)
    (k_is_model : PySem.W.keepIn K (.ref f_is_model) = true)
    (a_check_model : PySem.W.nsIn K mainGlobals "check_model" = some (some (.ref f_check_model)))
    (l_check_model : K.lookup f_check_model = some ⟨oc_check_model, od_check_model, .func (PySem.W.fnOf "check_model" "check_model" (defArgs s_check_model) (defBody s_check_model) (defScope s_check_model) .none kV_check_model dc_check_model pm_check_model an_check_model cd_check_model ct_check_model), sl_check_model⟩)
    (c_check_model : PySem.W.codeIn K cd_check_model "check_model" = true)
    (k_check_model : PySem.W.keepIn K (.ref f_check_model) = true)
    (a_join_parts : PySem.W.nsIn K mainGlobals "join_parts" = some (some (.ref f_join_parts)))
    (l_join_parts : K.lookup f_join_parts = some ⟨oc_join_parts, od_join_parts, .func (PySem.W.fnOf "join_parts" "join_parts" (defArgs s_join_parts) (defBody s_join_parts) (defScope s_join_parts) .none kV_join_parts dc_join_parts pm_join_parts an_join_parts cd_join_parts ct_join_parts), sl_join_parts⟩)
    (c_join_parts : PySem.W.codeIn K cd_join_parts "join_parts" = true)
    (k_join_parts : PySem.W.keepIn K (.ref f_join_parts) = true)
    (a_script_lines : PySem.W.nsIn K mainGlobals "_script_lines" = some (some (.ref f_script_lines)))
    (l_script_lines : K.lookup f_script_lines = some ⟨oc_script_lines, od_script_lines, .func (PySem.W.fnOf "_script_lines" "_script_lines" (defArgs s_script_lines) (defBody s_script_lines) (defScope s_script_lines) .none kV_script_lines dc_script_lines pm_script_lines an_script_lines cd_script_lines ct_script_lines), sl_script_lines⟩)
    (c_script_lines : PySem.W.codeIn K cd_script_lines "_script_lines" = true)
    (k_script_lines : PySem.W.keepIn K (.ref f_script_lines) = true)
    (a_format_model : PySem.W.nsIn K mainGlobals "format_model" = some (some (.ref f_format_model)))
    (l_format_model : K.lookup f_format_model = some ⟨oc_format_model, od_format_model, .func (PySem.W.fnOf "format_model" "format_model" (defArgs s_format_model) (defBody s_format_model) (defScope s_format_model) .none kV_format_model dc_format_model pm_format_model an_format_model cd_format_model ct_format_model), sl_format_model⟩)
    (c_format_model : PySem.W.codeIn K cd_format_model "format_model" = true)
    (k_format_model : PySem.W.keepIn K (.ref f_format_model) = true)
    (a_law_cell_at : PySem.W.nsIn K mainGlobals "_law_cell_at" = some (some (.ref f_law_cell_at)))
    (l_law_cell_at : K.lookup f_law_cell_at = some ⟨oc_law_cell_at, od_law_cell_at, .func (PySem.W.fnOf "_law_cell_at" "_law_cell_at" (defArgs s_law_cell_at) (defBody s_law_cell_at) (defScope s_law_cell_at) .none kV_law_cell_at dc_law_cell_at pm_law_cell_at an_law_cell_at cd_law_cell_at ct_law_cell_at), sl_law_cell_at⟩)
    (c_law_cell_at : PySem.W.codeIn K cd_law_cell_at "_law_cell_at" = true)
    (k_law_cell_at : PySem.W.keepIn K (.ref f_law_cell_at) = true)
    (a_law_pen : PySem.W.nsIn K mainGlobals "_law_pen" = some (some (.ref f_law_pen)))
    (l_law_pen : K.lookup f_law_pen = some ⟨oc_law_pen, od_law_pen, .func (PySem.W.fnOf "_law_pen" "_law_pen" (defArgs s_law_pen) (defBody s_law_pen) (defScope s_law_pen) .none kV_law_pen dc_law_pen pm_law_pen an_law_pen cd_law_pen ct_law_pen), sl_law_pen⟩)
    (c_law_pen : PySem.W.codeIn K cd_law_pen "_law_pen" = true)
    (k_law_pen : PySem.W.keepIn K (.ref f_law_pen) = true)
    (a_law_draw : PySem.W.nsIn K mainGlobals "_law_draw" = some (some (.ref f_law_draw)))
    (l_law_draw : K.lookup f_law_draw = some ⟨oc_law_draw, od_law_draw, .func (PySem.W.fnOf "_law_draw" "_law_draw" (defArgs s_law_draw) (defBody s_law_draw) (defScope s_law_draw) .none kV_law_draw dc_law_draw pm_law_draw an_law_draw cd_law_draw ct_law_draw), sl_law_draw⟩)
    (c_law_draw : PySem.W.codeIn K cd_law_draw "_law_draw" = true)
    (k_law_draw : PySem.W.keepIn K (.ref f_law_draw) = true)
    (a_law_pick : PySem.W.nsIn K mainGlobals "_law_pick" = some (some (.ref f_law_pick)))
    (l_law_pick : K.lookup f_law_pick = some ⟨oc_law_pick, od_law_pick, .func (PySem.W.fnOf "_law_pick" "_law_pick" (defArgs s_law_pick) (defBody s_law_pick) (defScope s_law_pick) .none kV_law_pick dc_law_pick pm_law_pick an_law_pick cd_law_pick ct_law_pick), sl_law_pick⟩)
    (c_law_pick : PySem.W.codeIn K cd_law_pick "_law_pick" = true)
    (k_law_pick : PySem.W.keepIn K (.ref f_law_pick) = true)
    (a_law_chunk : PySem.W.nsIn K mainGlobals "_law_chunk" = some (some (.ref f_law_chunk)))
    (l_law_chunk : K.lookup f_law_chunk = some ⟨oc_law_chunk, od_law_chunk, .func (PySem.W.fnOf "_law_chunk" "_law_chunk" (defArgs s_law_chunk) (defBody s_law_chunk) (defScope s_law_chunk) .none kV_law_chunk dc_law_chunk pm_law_chunk an_law_chunk cd_law_chunk ct_law_chunk), sl_law_chunk⟩)
    (c_law_chunk : PySem.W.codeIn K cd_law_chunk "_law_chunk" = true)
    (k_law_chunk : PySem.W.keepIn K (.ref f_law_chunk) = true)
    (a_law_body : PySem.W.nsIn K mainGlobals "_law_body" = some (some (.ref f_law_body)))
    (l_law_body : K.lookup f_law_body = some ⟨oc_law_body, od_law_body, .func (PySem.W.fnOf "_law_body" "_law_body" (defArgs s_law_body) (defBody s_law_body) (defScope s_law_body) .none kV_law_body dc_law_body pm_law_body an_law_body cd_law_body ct_law_body), sl_law_body⟩)
    (c_law_body : PySem.W.codeIn K cd_law_body "_law_body" = true)
    (k_law_body : PySem.W.keepIn K (.ref f_law_body) = true)
    (a_law_script : PySem.W.nsIn K mainGlobals "_law_script" = some (some (.ref f_law_script)))
    (l_law_script : K.lookup f_law_script = some ⟨oc_law_script, od_law_script, .func (PySem.W.fnOf "_law_script" "_law_script" (defArgs s_law_script) (defBody s_law_script) (defScope s_law_script) .none kV_law_script dc_law_script pm_law_script an_law_script cd_law_script ct_law_script), sl_law_script⟩)
    (c_law_script : PySem.W.codeIn K cd_law_script "_law_script" = true)
    (k_law_script : PySem.W.keepIn K (.ref f_law_script) = true)
    (a_law_has_rouse : PySem.W.nsIn K mainGlobals "_law_has_rouse" = some (some (.ref f_law_has_rouse)))
    (l_law_has_rouse : K.lookup f_law_has_rouse = some ⟨oc_law_has_rouse, od_law_has_rouse, .func (PySem.W.fnOf "_law_has_rouse" "_law_has_rouse" (defArgs s_law_has_rouse) (defBody s_law_has_rouse) (defScope s_law_has_rouse) .none kV_law_has_rouse dc_law_has_rouse pm_law_has_rouse an_law_has_rouse cd_law_has_rouse ct_law_has_rouse), sl_law_has_rouse⟩)
    (c_law_has_rouse : PySem.W.codeIn K cd_law_has_rouse "_law_has_rouse" = true)
    (k_law_has_rouse : PySem.W.keepIn K (.ref f_law_has_rouse) = true)
    (a_law_pass_time : PySem.W.nsIn K mainGlobals "_law_pass_time" = some (some (.ref f_law_pass_time)))
    (l_law_pass_time : K.lookup f_law_pass_time = some ⟨oc_law_pass_time, od_law_pass_time, .func (PySem.W.fnOf "_law_pass_time" "_law_pass_time" (defArgs s_law_pass_time) (defBody s_law_pass_time) (defScope s_law_pass_time) .none kV_law_pass_time dc_law_pass_time pm_law_pass_time an_law_pass_time cd_law_pass_time ct_law_pass_time), sl_law_pass_time⟩)
    (c_law_pass_time : PySem.W.codeIn K cd_law_pass_time "_law_pass_time" = true)
    (k_law_pass_time : PySem.W.keepIn K (.ref f_law_pass_time) = true)
    (a_law_cost : PySem.W.nsIn K mainGlobals "_law_cost" = some (some (.ref f_law_cost)))
    (l_law_cost : K.lookup f_law_cost = some ⟨oc_law_cost, od_law_cost, .func (PySem.W.fnOf "_law_cost" "_law_cost" (defArgs s_law_cost) (defBody s_law_cost) (defScope s_law_cost) .none kV_law_cost dc_law_cost pm_law_cost an_law_cost cd_law_cost ct_law_cost), sl_law_cost⟩)
    (c_law_cost : PySem.W.codeIn K cd_law_cost "_law_cost" = true)
    (k_law_cost : PySem.W.keepIn K (.ref f_law_cost) = true)
    (a_law_fitted : PySem.W.nsIn K mainGlobals "_law_fitted" = some (some (.ref f_law_fitted)))
    (l_law_fitted : K.lookup f_law_fitted = some ⟨oc_law_fitted, od_law_fitted, .func (PySem.W.fnOf "_law_fitted" "_law_fitted" (defArgs s_law_fitted) (defBody s_law_fitted) (defScope s_law_fitted) .none kV_law_fitted dc_law_fitted pm_law_fitted an_law_fitted cd_law_fitted ct_law_fitted), sl_law_fitted⟩)
    (c_law_fitted : PySem.W.codeIn K cd_law_fitted "_law_fitted" = true)
    (k_law_fitted : PySem.W.keepIn K (.ref f_law_fitted) = true)
    (a_law_store : PySem.W.nsIn K mainGlobals "_law_store" = some (some (.ref f_law_store)))
    (l_law_store : K.lookup f_law_store = some ⟨oc_law_store, od_law_store, .func (PySem.W.fnOf "_law_store" "_law_store" (defArgs s_law_store) (defBody s_law_store) (defScope s_law_store) .none kV_law_store dc_law_store pm_law_store an_law_store cd_law_store ct_law_store), sl_law_store⟩)
    (c_law_store : PySem.W.codeIn K cd_law_store "_law_store" = true)
    (k_law_store : PySem.W.keepIn K (.ref f_law_store) = true)
    (a_law_model : PySem.W.nsIn K mainGlobals "_law_model" = some (some (.ref f_law_model)))
    (l_law_model : K.lookup f_law_model = some ⟨oc_law_model, od_law_model, .func (PySem.W.fnOf "_law_model" "_law_model" (defArgs s_law_model) (defBody s_law_model) (defScope s_law_model) .none kV_law_model dc_law_model pm_law_model an_law_model cd_law_model ct_law_model), sl_law_model⟩)
    (c_law_model : PySem.W.codeIn K cd_law_model "_law_model" = true)
    (k_law_model : PySem.W.keepIn K (.ref f_law_model) = true)
    (a_law_lines : PySem.W.nsIn K mainGlobals "_law_lines" = some (some (.ref f_law_lines)))
    (l_law_lines : K.lookup f_law_lines = some ⟨oc_law_lines, od_law_lines, .func (PySem.W.fnOf "_law_lines" "_law_lines" (defArgs s_law_lines) (defBody s_law_lines) (defScope s_law_lines) .none kV_law_lines dc_law_lines pm_law_lines an_law_lines cd_law_lines ct_law_lines), sl_law_lines⟩)
    (c_law_lines : PySem.W.codeIn K cd_law_lines "_law_lines" = true)
    (k_law_lines : PySem.W.keepIn K (.ref f_law_lines) = true)
    (a_law_text : PySem.W.nsIn K mainGlobals "_law_text" = some (some (.ref f_law_text)))
    (l_law_text : K.lookup f_law_text = some ⟨oc_law_text, od_law_text, .func (PySem.W.fnOf "_law_text" "_law_text" (defArgs s_law_text) (defBody s_law_text) (defScope s_law_text) .none kV_law_text dc_law_text pm_law_text an_law_text cd_law_text ct_law_text), sl_law_text⟩)
    (c_law_text : PySem.W.codeIn K cd_law_text "_law_text" = true)
    (k_law_text : PySem.W.keepIn K (.ref f_law_text) = true)
    (a_law_same : PySem.W.nsIn K mainGlobals "_law_same" = some (some (.ref f_law_same)))
    (l_law_same : K.lookup f_law_same = some ⟨oc_law_same, od_law_same, .func (PySem.W.fnOf "_law_same" "_law_same" (defArgs s_law_same) (defBody s_law_same) (defScope s_law_same) .none kV_law_same dc_law_same pm_law_same an_law_same cd_law_same ct_law_same), sl_law_same⟩)
    (c_law_same : PySem.W.codeIn K cd_law_same "_law_same" = true)
    (k_law_same : PySem.W.keepIn K (.ref f_law_same) = true)
    (a_law_wide : PySem.W.nsIn K mainGlobals "_law_wide" = some (some (.ref f_law_wide)))
    (l_law_wide : K.lookup f_law_wide = some ⟨oc_law_wide, od_law_wide, .func (PySem.W.fnOf "_law_wide" "_law_wide" (defArgs s_law_wide) (defBody s_law_wide) (defScope s_law_wide) .none kV_law_wide dc_law_wide pm_law_wide an_law_wide cd_law_wide ct_law_wide), sl_law_wide⟩)
    (c_law_wide : PySem.W.codeIn K cd_law_wide "_law_wide" = true)
    (k_law_wide : PySem.W.keepIn K (.ref f_law_wide) = true)
    (a_law : PySem.W.nsIn K mainGlobals "law" = some (some (.ref f_law)))
    (l_law : K.lookup f_law = some ⟨oc_law, od_law, .func (PySem.W.fnOf "law" "law" (defArgs s_law) (defBody s_law) (defScope s_law) .none kV_law dc_law pm_law an_law cd_law ct_law), sl_law⟩)
    (c_law : PySem.W.codeIn K cd_law "law" = true)
    (k_law : PySem.W.keepIn K (.ref f_law) = true)
    : ∃ fd : FuncData, (∀ (s : Shared) (v : Value), BindsTo s fd ⟨[v], []⟩ [("_law_script_here", v)]) ∧ ∀ base : Heap, K.In base → base.Ns mainGlobals mg → FnD l.prog w K mg base 30 fa fd ["_law_script_here"] dLaw := by
  have e := hfa.symm.trans (PySem.W.mg_of X G a_law)
  cases e
  have F_is_between := fun_mk (st := s_is_between) l_is_between c_is_between k_is_between
  have B_is_between := F_is_between.binds (ps := ["thing", "low", "high"]) fun _ _ _ _ _ _ us hl => match us, hl with | [_, _, _], _ => rfl
  have F_is_tuple := fun_mk (st := s_is_tuple) l_is_tuple c_is_tuple k_is_tuple
  have B_is_tuple := F_is_tuple.binds (ps := ["thing", "least", "most"]) fun _ _ _ _ _ _ us hl => match us, hl with | [_, _, _], _ => rfl
  have F_is_resource := fun_mk (st := s_is_resource) l_is_resource c_is_resource k_is_resource
  have B_is_resource := F_is_resource.binds (ps := ["thing"]) fun _ _ _ _ _ _ us hl => match us, hl with | [_], _ => rfl
  have F_is_store := fun_mk (st := s_is_store) l_is_store c_is_store k_is_store
  have B_is_store := F_is_store.binds (ps := ["thing"]) fun _ _ _ _ _ _ us hl => match us, hl with | [_], _ => rfl
  have F_last_numbers := fun_mk (st := s_last_numbers) l_last_numbers c_last_numbers k_last_numbers
  have B_last_numbers := F_last_numbers.binds (ps := ["resources", "stores", "gates", "scripts"]) fun _ _ _ _ _ _ us hl => match us, hl with | [_, _, _, _], _ => rfl
  have F_is_plain := fun_mk (st := s_is_plain) l_is_plain c_is_plain k_is_plain
  have B_is_plain := F_is_plain.binds (ps := ["word", "numbers", "last"]) fun _ _ _ _ _ _ us hl => match us, hl with | [_, _, _], _ => rfl
  have F_is_instruction := fun_mk (st := s_is_instruction) l_is_instruction c_is_instruction k_is_instruction
  have B_is_instruction := F_is_instruction.binds (ps := ["thing", "last", "depth"]) fun _ _ _ _ _ _ us hl => match us, hl with | [_, _, _], _ => rfl
  have F_is_repeat := fun_mk (st := s_is_repeat) l_is_repeat c_is_repeat k_is_repeat
  have B_is_repeat := F_is_repeat.binds (ps := ["thing", "last", "depth"]) fun _ _ _ _ _ _ us hl => match us, hl with | [_, _, _], _ => rfl
  have F_are_instructions := fun_mk (st := s_are_instructions) l_are_instructions c_are_instructions k_are_instructions
  have B_are_instructions := F_are_instructions.binds (ps := ["things", "last", "depth"]) fun _ _ _ _ _ _ us hl => match us, hl with | [_, _, _], _ => rfl
  have F_is_body := fun_mk (st := s_is_body) l_is_body c_is_body k_is_body
  have B_is_body := F_is_body.binds (ps := ["thing", "last", "depth"]) fun _ _ _ _ _ _ us hl => match us, hl with | [_, _, _], _ => rfl
  have F_is_forever := fun_mk (st := s_is_forever) l_is_forever c_is_forever k_is_forever
  have B_is_forever := F_is_forever.binds (ps := ["thing", "last"]) fun _ _ _ _ _ _ us hl => match us, hl with | [_, _], _ => rfl
  have F_is_script := fun_mk (st := s_is_script) l_is_script c_is_script k_is_script
  have B_is_script := F_is_script.binds (ps := ["thing", "last"]) fun _ _ _ _ _ _ us hl => match us, hl with | [_, _], _ => rfl
  have F_are_scripts := fun_mk (st := s_are_scripts) l_are_scripts c_are_scripts k_are_scripts
  have B_are_scripts := F_are_scripts.binds (ps := ["scripts", "last"]) fun _ _ _ _ _ _ us hl => match us, hl with | [_, _], _ => rfl
  have F_has_parts := fun_mk (st := s_has_parts) l_has_parts c_has_parts k_has_parts
  have B_has_parts := F_has_parts.binds (ps := ["thing"]) fun _ _ _ _ _ _ us hl => match us, hl with | [_], _ => rfl
  have F_units_after := fun_mk (st := s_units_after) l_units_after c_units_after k_units_after
  have B_units_after := F_units_after.binds (ps := ["script", "resource", "units"]) fun _ _ _ _ _ _ us hl => match us, hl with | [_, _, _], _ => rfl
  have F_is_balanced := fun_mk (st := s_is_balanced) l_is_balanced c_is_balanced k_is_balanced
  have B_is_balanced := F_is_balanced.binds (ps := ["script", "resources"]) fun _ _ _ _ _ _ us hl => match us, hl with | [_, _], _ => rfl
  have F_time_of := fun_mk (st := s_time_of) l_time_of c_time_of k_time_of
  have B_time_of := F_time_of.binds (ps := ["script"]) fun _ _ _ _ _ _ us hl => match us, hl with | [_], _ => rfl
  have F_makes_progress := fun_mk (st := s_makes_progress) l_makes_progress c_makes_progress k_makes_progress
  have B_makes_progress := F_makes_progress.binds (ps := ["script"]) fun _ _ _ _ _ _ us hl => match us, hl with | [_], _ => rfl
  have F_meets_conditions := fun_mk (st := s_meets_conditions) l_meets_conditions c_meets_conditions k_meets_conditions
  have B_meets_conditions := F_meets_conditions.binds (ps := ["model"]) fun _ _ _ _ _ _ us hl => match us, hl with | [_], _ => rfl
  have F_is_model := fun_mk (st := s_is_model) l_is_model c_is_model k_is_model
  have B_is_model := F_is_model.binds (ps := ["thing"]) fun _ _ _ _ _ _ us hl => match us, hl with | [_], _ => rfl
  have F_check_model := fun_mk (st := s_check_model) l_check_model c_check_model k_check_model
  have B_check_model := F_check_model.binds (ps := ["model"]) fun _ _ _ _ _ _ us hl => match us, hl with | [_], _ => rfl
  have F_join_parts := fun_mk (st := s_join_parts) l_join_parts c_join_parts k_join_parts
  have B_join_parts := F_join_parts.binds (ps := ["parts"]) fun _ _ _ _ _ _ us hl => match us, hl with | [_], _ => rfl
  have F_script_lines := fun_mk (st := s_script_lines) l_script_lines c_script_lines k_script_lines
  have B_script_lines := F_script_lines.binds (ps := ["script"]) fun _ _ _ _ _ _ us hl => match us, hl with | [_], _ => rfl
  have F_format_model := fun_mk (st := s_format_model) l_format_model c_format_model k_format_model
  have B_format_model := F_format_model.binds (ps := ["model"]) fun _ _ _ _ _ _ us hl => match us, hl with | [_], _ => rfl
  have F_law_cell_at := fun_mk (st := s_law_cell_at) l_law_cell_at c_law_cell_at k_law_cell_at
  have B_law_cell_at := F_law_cell_at.binds (ps := ["_law_script_here", "_law_k"]) fun _ _ _ _ _ _ us hl => match us, hl with | [_, _], _ => rfl
  have F_law_pen := fun_mk (st := s_law_pen) l_law_pen c_law_pen k_law_pen
  have B_law_pen := F_law_pen.binds (ps := ["_law_cell"]) fun _ _ _ _ _ _ us hl => match us, hl with | [_], _ => rfl
  have F_law_draw := fun_mk (st := s_law_draw) l_law_draw c_law_draw k_law_draw
  have B_law_draw := F_law_draw.binds (ps := ["_law_pen_here", "_law_many"]) fun _ _ _ _ _ _ us hl => match us, hl with | [_, _], _ => rfl
  have F_law_pick := fun_mk (st := s_law_pick) l_law_pick c_law_pick k_law_pick
  have B_law_pick := F_law_pick.binds (ps := ["_law_pen_here", "_law_things"]) fun _ _ _ _ _ _ us hl => match us, hl with | [_, _], _ => rfl
  have F_law_chunk := fun_mk (st := s_law_chunk) l_law_chunk c_law_chunk k_law_chunk
  have B_law_chunk := F_law_chunk.binds (ps := ["_law_pen_here", "_law_counts"]) fun _ _ _ _ _ _ us hl => match us, hl with | [_, _], _ => rfl
  have F_law_body := fun_mk (st := s_law_body) l_law_body c_law_body k_law_body
  have B_law_body := F_law_body.binds (ps := ["_law_pen_here", "_law_counts", "_law_many"]) fun _ _ _ _ _ _ us hl => match us, hl with | [_, _, _], _ => rfl
  have F_law_script := fun_mk (st := s_law_script) l_law_script c_law_script k_law_script
  have B_law_script := F_law_script.binds (ps := ["_law_pen_here", "_law_counts"]) fun _ _ _ _ _ _ us hl => match us, hl with | [_, _], _ => rfl
  have F_law_has_rouse := fun_mk (st := s_law_has_rouse) l_law_has_rouse c_law_has_rouse k_law_has_rouse
  have B_law_has_rouse := F_law_has_rouse.binds (ps := ["_law_script_here"]) fun _ _ _ _ _ _ us hl => match us, hl with | [_], _ => rfl
  have F_law_pass_time := fun_mk (st := s_law_pass_time) l_law_pass_time c_law_pass_time k_law_pass_time
  have B_law_pass_time := F_law_pass_time.binds (ps := ["_law_body_here", "_law_calm"]) fun _ _ _ _ _ _ us hl => match us, hl with | [_, _], _ => rfl
  have F_law_cost := fun_mk (st := s_law_cost) l_law_cost c_law_cost k_law_cost
  have B_law_cost := F_law_cost.binds (ps := ["_law_script_here", "_law_calm"]) fun _ _ _ _ _ _ us hl => match us, hl with | [_, _], _ => rfl
  have F_law_fitted := fun_mk (st := s_law_fitted) l_law_fitted c_law_fitted k_law_fitted
  have B_law_fitted := F_law_fitted.binds (ps := ["_law_scripts", "_law_room"]) fun _ _ _ _ _ _ us hl => match us, hl with | [_, _], _ => rfl
  have F_law_store := fun_mk (st := s_law_store) l_law_store c_law_store k_law_store
  have B_law_store := F_law_store.binds (ps := ["_law_pen_here"]) fun _ _ _ _ _ _ us hl => match us, hl with | [_], _ => rfl
  have F_law_model := fun_mk (st := s_law_model) l_law_model c_law_model k_law_model
  have B_law_model := F_law_model.binds (ps := ["_law_pen_here", "_law_most", "_law_room"]) fun _ _ _ _ _ _ us hl => match us, hl with | [_, _, _], _ => rfl
  have F_law_lines := fun_mk (st := s_law_lines) l_law_lines c_law_lines k_law_lines
  have B_law_lines := F_law_lines.binds (ps := ["_law_script_here"]) fun _ _ _ _ _ _ us hl => match us, hl with | [_], _ => rfl
  have F_law_text := fun_mk (st := s_law_text) l_law_text c_law_text k_law_text
  have B_law_text := F_law_text.binds (ps := ["_law_model_here"]) fun _ _ _ _ _ _ us hl => match us, hl with | [_], _ => rfl
  have F_law_same := fun_mk (st := s_law_same) l_law_same c_law_same k_law_same
  have B_law_same := F_law_same.binds (ps := ["_law_one", "_law_other"]) fun _ _ _ _ _ _ us hl => match us, hl with | [_, _], _ => rfl
  have F_law_wide := fun_mk (st := s_law_wide) l_law_wide c_law_wide k_law_wide
  have B_law_wide := F_law_wide.binds (ps := ["_law_pen_here", "_law_model_here"]) fun _ _ _ _ _ _ us hl => match us, hl with | [_, _], _ => rfl
  have F_law := fun_mk (st := s_law) l_law c_law k_law
  have B_law := F_law.binds (ps := ["_law_script_here"]) fun _ _ _ _ _ _ us hl => match us, hl with | [_], _ => rfl
  have T : Txt K mg := ⟨PySem.W.mg_none_of X G z_isinstance, PySem.W.mg_none_of X G z_int, PySem.W.mg_none_of X G z_bool, PySem.W.mg_none_of X G z_len, PySem.W.mg_none_of X G z_tuple, PySem.W.mg_none_of X G z_str, PySem.W.mg_none_of X G z_all, PySem.W.mg_none_of X G z_range, PySem.W.mg_none_of X G z_zip, PySem.W.mg_none_of X G z_repr, PySem.W.mg_none_of X G z_max, PySem.W.mg_none_of X G z_min, PySem.W.mg_none_of X G z_enumerate, PySem.W.mg_none_of X G z_list, PySem.W.mg_none_of X G z_sum, ⟨_, PySem.W.mg_of X G v_LAST_ITEM⟩, ⟨_, PySem.W.mg_of X G v_LAST_MARK⟩, ⟨_, PySem.W.mg_of X G v_LAST_RANK⟩, ⟨_, PySem.W.mg_of X G v_MOST_CAPACITY⟩, ⟨_, PySem.W.mg_of X G v_MOST_DEPTH⟩, ⟨_, PySem.W.mg_of X G v_MOST_GATES⟩, ⟨_, PySem.W.mg_of X G v_MOST_RESOURCES⟩, ⟨_, PySem.W.mg_of X G v_MOST_SCRIPTS⟩, ⟨_, PySem.W.mg_of X G v_MOST_STORES⟩, ⟨_, PySem.W.mg_of X G v_MOST_TIMES⟩, ⟨_, PySem.W.mg_of X G a_DISCIPLINES, ⟨_, _, _, _, l_DISCIPLINES, s_DISCIPLINES, x_DISCIPLINES⟩⟩, ⟨_, PySem.W.mg_of X G a_GATE_WORDS, ⟨_, _, _, _, l_GATE_WORDS, s_GATE_WORDS, x_GATE_WORDS⟩⟩⟩
  have b_any := PySem.W.mg_none_of X G z_any
  have D_KINDS : KDict K w aK _ _ := ⟨l_KINDS, y_KINDS, o_KINDS⟩
  have KF : KinF K w aK := ⟨⟨_, _, D_KINDS⟩, List.forall_mem_cons.mpr ⟨⟨_, kt_wait, ⟨_, _, _, _, l_k_wait, s_k_wait, x_k_wait⟩⟩, List.forall_mem_cons.mpr ⟨⟨_, kt_take, ⟨_, _, _, _, l_k_take, s_k_take, x_k_take⟩⟩, List.forall_mem_cons.mpr ⟨⟨_, kt_give, ⟨_, _, _, _, l_k_give, s_k_give, x_k_give⟩⟩, List.forall_mem_cons.mpr ⟨⟨_, kt_put, ⟨_, _, _, _, l_k_put, s_k_put, x_k_put⟩⟩, List.forall_mem_cons.mpr ⟨⟨_, kt_get, ⟨_, _, _, _, l_k_get, s_k_get, x_k_get⟩⟩, List.forall_mem_cons.mpr ⟨⟨_, kt_pass, ⟨_, _, _, _, l_k_pass, s_k_pass, x_k_pass⟩⟩, List.forall_mem_cons.mpr ⟨⟨_, kt_open, ⟨_, _, _, _, l_k_open, s_k_open, x_k_open⟩⟩, List.forall_mem_cons.mpr ⟨⟨_, kt_shut, ⟨_, _, _, _, l_k_shut, s_k_shut, x_k_shut⟩⟩, List.forall_mem_cons.mpr ⟨⟨_, kt_rouse, ⟨_, _, _, _, l_k_rouse, s_k_rouse, x_k_rouse⟩⟩, List.forall_mem_cons.mpr ⟨⟨_, kt_mark, ⟨_, _, _, _, l_k_mark, s_k_mark, x_k_mark⟩⟩, fun _ h => nomatch h⟩⟩⟩⟩⟩⟩⟩⟩⟩⟩, nf_KINDS, nr_KINDS⟩
  refine ⟨PySem.W.fnOf "law" "law" (defArgs s_law) (defBody s_law) (defScope s_law) .none kV_law dc_law pm_law an_law cd_law ct_law, fun s v => .of_eq rfl, fun base hbi hbn => ?_⟩
  have R_Line : ClX.CRead K CL (.type "type") := ⟨r_CL, g_CL⟩
  have V_Line : ClX.CVal K CL (.type "type") "MOST_UNITS" (.int 3) _ := ⟨v_CLMOST_UNITS, ⟨_, rfl⟩⟩
  have G_is_between : GF l.prog w K mg base "is_between" 1 _ _ _ d_is_between := ⟨ok_is_between F_is_between T, B_is_between, PySem.W.mg_of X G a_is_between, k_is_between⟩
  have G_is_tuple : GF l.prog w K mg base "_is_tuple" 2 _ _ _ d_is_tuple := ⟨ok_is_tuple F_is_tuple T G_is_between, B_is_tuple, PySem.W.mg_of X G a_is_tuple, k_is_tuple⟩
  have G_is_resource : GF l.prog w K mg base "is_resource" 3 _ _ _ d_is_resource := ⟨ok_is_resource F_is_resource T G_is_between G_is_tuple (PySem.W.mg_of X G a_CL) R_Line V_Line, B_is_resource, PySem.W.mg_of X G a_is_resource, k_is_resource⟩
  have G_is_store : GF l.prog w K mg base "is_store" 3 _ _ _ d_is_store := ⟨ok_is_store F_is_store T G_is_between G_is_tuple, B_is_store, PySem.W.mg_of X G a_is_store, k_is_store⟩
  have G_last_numbers : GF l.prog w K mg base "last_numbers" 1 _ _ _ d_last_numbers := ⟨ok_last_numbers F_last_numbers T, B_last_numbers, PySem.W.mg_of X G a_last_numbers, k_last_numbers⟩
  have G_is_plain : GF l.prog w K mg base "is_plain" 2 _ _ _ d_is_plain := ⟨ok_is_plain F_is_plain T D_KINDS KF (PySem.W.mg_of X G a_KINDS) G_is_between, B_is_plain, PySem.W.mg_of X G a_is_plain, k_is_plain⟩
  have S1 : ∀ n a, 2 ≤ a → FnD l.prog w K mg base a f_is_body _ ["thing", "last", "depth"] (d_is_bodyP n) → GF l.prog w K mg base "_are_instructions" (a+3) f_are_instructions _ ["things", "last", "depth"] (d_are_instructions n) := fun n a ha hP =>
    have G_body : GF l.prog w K mg base "_is_body" a _ _ _ (d_is_bodyP n) := ⟨hP, B_is_body, PySem.W.mg_of X G a_is_body, k_is_body⟩
    have G_rep : GF l.prog w K mg base "_is_repeat" (a+1) _ _ _ (d_is_repeat n) := ⟨ok_is_repeat F_is_repeat T ha G_is_between G_is_tuple G_body, B_is_repeat, PySem.W.mg_of X G a_is_repeat, k_is_repeat⟩
    have G_ins : GF l.prog w K mg base "_is_instruction" (a+2) _ _ _ (d_is_instruction n) := ⟨ok_is_instruction F_is_instruction T ha (G_is_plain.mono (by omega)) G_is_tuple G_rep, B_is_instruction, PySem.W.mg_of X G a_is_instruction, k_is_instruction⟩
    ⟨ok_are_instructions F_are_instructions T ha G_ins, B_are_instructions, PySem.W.mg_of X G a_are_instructions, k_are_instructions⟩
  have body := FnD.fam (pr := l.prog) (w := w) (base := base) (d := d_is_body) (k0 := 2) (c := 4) fun n a ha hP => ok_is_body F_is_body T ha G_is_tuple (S1 n a ha hP)
  have G_body2 : GF l.prog w K mg base "_is_body" 14 _ _ _ (d_is_body 2) := ⟨body 2, B_is_body, PySem.W.mg_of X G a_is_body, k_is_body⟩
  have G_are3 := S1 3 14 (by decide) ((body 2).imp fun ys m F P ⟨k, e, h⟩ => by cases e; exact h)
  have G_is_forever : GF l.prog w K mg base "_is_forever" 16 _ _ _ d_is_forever := ⟨ok_is_forever F_is_forever T (a := 14) (by decide) (Nat.le_refl 2) G_is_tuple G_body2, B_is_forever, PySem.W.mg_of X G a_is_forever, k_is_forever⟩
  have G_is_script : GF l.prog w K mg base "_is_script" 18 _ _ _ d_is_script := ⟨ok_is_script F_is_script T (a := 14) (by decide) (Nat.le_refl 3) G_is_forever G_are3, B_is_script, PySem.W.mg_of X G a_is_script, k_is_script⟩
  have G_are_scripts : GF l.prog w K mg base "_are_scripts" 19 _ _ _ d_are_scripts := ⟨ok_are_scripts F_are_scripts T (a := 14) (by decide) G_is_script, B_are_scripts, PySem.W.mg_of X G a_are_scripts, k_are_scripts⟩
  have G_has_parts : GF l.prog w K mg base "has_parts" 20 _ _ _ d_has_parts := ⟨ok_has_parts F_has_parts T (a := 14) (by decide) G_is_tuple G_is_resource G_is_store G_last_numbers G_are_scripts, B_has_parts, PySem.W.mg_of X G a_has_parts, k_has_parts⟩
  have units := FnD.fam (pr := l.prog) (w := w) (base := base) (d := d_units_after) (k0 := 0) (c := 1) fun n a ha hP => ok_units_after F_units_after T (n := n) (a := a) ⟨hP, B_units_after, PySem.W.mg_of X G a_units_after, k_units_after⟩
  have time := FnD.fam (pr := l.prog) (w := w) (base := base) (d := d_time_of) (k0 := 0) (c := 1) fun n a ha hP => ok_time_of F_time_of T (n := n) (a := a) ⟨hP, B_time_of, PySem.W.mg_of X G a_time_of, k_time_of⟩
  have G_units : GF l.prog w K mg base "_units_after" 5 _ _ _ (d_units_after 3) := ⟨(units 3).mono (by decide), B_units_after, PySem.W.mg_of X G a_units_after, k_units_after⟩
  have G_time : GF l.prog w K mg base "_time_of" 5 _ _ _ (d_time_of 2) := ⟨(time 2).mono (by decide), B_time_of, PySem.W.mg_of X G a_time_of, k_time_of⟩
  have G_is_balanced : GF l.prog w K mg base "_is_balanced" 6 _ _ _ (d_is_balanced 3) := ⟨ok_is_balanced F_is_balanced T G_units, B_is_balanced, PySem.W.mg_of X G a_is_balanced, k_is_balanced⟩
  have G_makes_progress : GF l.prog w K mg base "_makes_progress" 6 _ _ _ (d_makes_progress 2) := ⟨ok_makes_progress F_makes_progress T G_time, B_makes_progress, PySem.W.mg_of X G a_makes_progress, k_makes_progress⟩
  have G_meets : GF l.prog w K mg base "meets_conditions" 20 _ _ _ (d_meets_conditions 3) := ⟨(ok_meets_conditions F_meets_conditions T (n := 2) (a := 5) G_is_balanced G_makes_progress).mono (by decide), B_meets_conditions, PySem.W.mg_of X G a_meets_conditions, k_meets_conditions⟩
  have G_is_model : GF l.prog w K mg base "is_model" 21 _ _ _ d_is_model := ⟨ok_is_model F_is_model T (a := 14) G_has_parts G_meets, B_is_model, PySem.W.mg_of X G a_is_model, k_is_model⟩
  have G_law_cell_at : GF l.prog w K mg base "_law_cell_at" 1 _ _ _ d_law_cell_at := ⟨ok_law_cell_at F_law_cell_at T, B_law_cell_at, PySem.W.mg_of X G a_law_cell_at, k_law_cell_at⟩
  have G_law_pen : GF l.prog w K mg base "_law_pen" 1 _ _ _ d_law_pen := ⟨ok_law_pen F_law_pen T, B_law_pen, PySem.W.mg_of X G a_law_pen, k_law_pen⟩
  have G_law_draw : GF l.prog w K mg base "_law_draw" 1 _ _ _ d_law_draw := ⟨ok_law_draw F_law_draw T, B_law_draw, PySem.W.mg_of X G a_law_draw, k_law_draw⟩
  have G_law_pick : GF l.prog w K mg base "_law_pick" 2 _ _ _ d_law_pick := ⟨ok_law_pick F_law_pick T (a := 0) G_law_draw, B_law_pick, PySem.W.mg_of X G a_law_pick, k_law_pick⟩
  have G_check_model : GF l.prog w K mg base "check_model" 22 _ _ _ d_check_model := ⟨ok_check_model F_check_model T (a := 21) G_is_model, B_check_model, PySem.W.mg_of X G a_check_model, k_check_model⟩
  have G_join_parts : GF l.prog w K mg base "join_parts" 1 _ _ _ d_join_parts := ⟨ok_join_parts F_join_parts T (a := 0), B_join_parts, PySem.W.mg_of X G a_join_parts, k_join_parts⟩
  have sl := FnD.fam (pr := l.prog) (w := w) (base := base) (d := d_script_lines) (k0 := 1) (c := 1) fun n a ha hP => ok_script_lines F_script_lines T (n := n) (a := a) D_KINDS KF (PySem.W.mg_of X G a_KINDS) ha G_join_parts ⟨hP, B_script_lines, PySem.W.mg_of X G a_script_lines, k_script_lines⟩
  have G_script_lines : GF l.prog w K mg base "_script_lines" 22 _ _ _ (d_script_lines 4) := ⟨(sl 4).mono (by decide), B_script_lines, PySem.W.mg_of X G a_script_lines, k_script_lines⟩
  have G_format_model : GF l.prog w K mg base "format_model" 29 _ _ _ d_format_model := ⟨(ok_format_model F_format_model T (a := 22) (by decide) G_check_model G_join_parts G_script_lines).mono (by decide), B_format_model, PySem.W.mg_of X G a_format_model, k_format_model⟩
  have G_law_chunk : GF l.prog w K mg base "_law_chunk" 3 _ _ _ d_law_chunk := ⟨ok_law_chunk F_law_chunk T (a := 0) G_law_draw G_law_pick, B_law_chunk, PySem.W.mg_of X G a_law_chunk, k_law_chunk⟩
  have G_law_body : GF l.prog w K mg base "_law_body" 4 _ _ _ d_law_body := ⟨ok_law_body F_law_body T (a := 0) G_law_chunk, B_law_body, PySem.W.mg_of X G a_law_body, k_law_body⟩
  have G_law_script : GF l.prog w K mg base "_law_script" 5 _ _ _ d_law_script := ⟨ok_law_script F_law_script T (a := 0) G_law_draw G_law_pick G_law_body, B_law_script, PySem.W.mg_of X G a_law_script, k_law_script⟩
  have hr := FnD.fam (pr := l.prog) (w := w) (base := base) (d := d_law_has_rouse) (k0 := 0) (c := 1) fun n a ha hP => ok_law_has_rouse F_law_has_rouse T (n := n) (a := a)  ⟨hP, B_law_has_rouse, PySem.W.mg_of X G a_law_has_rouse, k_law_has_rouse⟩
  have G_law_has_rouse : GF l.prog w K mg base "_law_has_rouse" 9 _ _ _ (d_law_has_rouse 3) := ⟨(hr 3).mono (by decide), B_law_has_rouse, PySem.W.mg_of X G a_law_has_rouse, k_law_has_rouse⟩
  have pt := FnD.fam (pr := l.prog) (w := w) (base := base) (d := d_law_pass_time) (k0 := 0) (c := 1) fun n a ha hP => ok_law_pass_time F_law_pass_time T (n := n) (a := a)  ⟨hP, B_law_pass_time, PySem.W.mg_of X G a_law_pass_time, k_law_pass_time⟩
  have G_law_pass_time : GF l.prog w K mg base "_law_pass_time" 5 _ _ _ (d_law_pass_time 3) := ⟨(pt 3).mono (by decide), B_law_pass_time, PySem.W.mg_of X G a_law_pass_time, k_law_pass_time⟩
  have cost := FnD.fam (pr := l.prog) (w := w) (base := base) (d := fun n => if n ≤ 3 then d_law_cost n else fun _ _ _ _ => False) (k0 := 5) (c := 1) fun n a ha hP => by
    by_cases hn : n ≤ 3
    · simp only [if_pos hn]
      exact ok_law_cost F_law_cost T hn (a := a) ha ⟨hP.imp fun ys m F P ⟨k, e, h⟩ => ⟨k, e, by subst e; simp only [show k ≤ 3 by omega, if_true]; exact h⟩, B_law_cost, PySem.W.mg_of X G a_law_cost, k_law_cost⟩ (G_law_pass_time.mono ha)
    · simp only [if_neg hn]
      exact FnD.never fun _ _ _ _ h => h
  have G_law_cost : GF l.prog w K mg base "_law_cost" 9 _ _ _ (d_law_cost 3) := ⟨(cost 3).mono (by decide), B_law_cost, PySem.W.mg_of X G a_law_cost, k_law_cost⟩
  have G_law_fitted : GF l.prog w K mg base "_law_fitted" 10 _ _ _ d_law_fitted := ⟨ok_law_fitted F_law_fitted T (a := 9) b_any G_law_has_rouse G_law_cost, B_law_fitted, PySem.W.mg_of X G a_law_fitted, k_law_fitted⟩
  have G_law_store : GF l.prog w K mg base "_law_store" 2 _ _ _ d_law_store := ⟨ok_law_store F_law_store T G_law_draw, B_law_store, PySem.W.mg_of X G a_law_store, k_law_store⟩
  have G_law_model : GF l.prog w K mg base "_law_model" 11 _ _ _ d_law_model := ⟨ok_law_model F_law_model T (a := 10) (by decide) G_law_draw G_law_pick G_law_store G_law_script G_law_fitted, B_law_model, PySem.W.mg_of X G a_law_model, k_law_model⟩
  have ll := FnD.fam (pr := l.prog) (w := w) (base := base) (d := d_law_lines) (k0 := 0) (c := 1) fun n a ha hP => ok_law_lines F_law_lines T (n := n) (a := a)  ⟨hP, B_law_lines, PySem.W.mg_of X G a_law_lines, k_law_lines⟩
  have G_law_text : GF l.prog w K mg base "_law_text" 6 _ _ _ d_law_text := ⟨ok_law_text F_law_text T (a := 5) ⟨(ll 4).mono (by decide), B_law_lines, PySem.W.mg_of X G a_law_lines, k_law_lines⟩, B_law_text, PySem.W.mg_of X G a_law_text, k_law_text⟩
  have G_law_same : GF l.prog w K mg base "_law_same" 1 _ _ _ d_law_same := ⟨ok_law_same F_law_same T, B_law_same, PySem.W.mg_of X G a_law_same, k_law_same⟩
  have G_law_wide : GF l.prog w K mg base "_law_wide" 3 _ _ _ d_law_wide := ⟨ok_law_wide F_law_wide T G_law_draw G_law_pick, B_law_wide, PySem.W.mg_of X G a_law_wide, k_law_wide⟩
  exact ok_law F_law T (a := 29) (by decide) G_law_cell_at G_law_pen (G_law_model.mono (by decide)) G_law_wide G_law_same G_format_model (G_law_text.mono (by decide))
end Dl
open PySem PySem.W PyProof.Rows
set_option maxRecDepth 100000 in
set_option maxHeartbeats 0 in
theorem PySem.Challenge.cw_eventsim_k78_models_written_holds : PySem.Challenge.rw_eventsim_k78_models_written.Holds := by
  w_on; o_law; k_head; (case hw => w_witness2)
  k_fill
  refine Dl.walk_d (l := PySem.Challenge.rw_eventsim_k78_models_written) (k := 30) (x := "_law_script_here") rfl rfl ⟨rfl, by decide, by decide⟩ (fun w h Y => PySem.W.kIn_of Y) ?F
  case F =>
    intro w mg fa h KX G hmg
    refine' Dl.all_mk KX G hmg ?v_LAST_ITEM ?v_LAST_MARK ?v_LAST_RANK ?v_MOST_CAPACITY ?v_MOST_DEPTH ?v_MOST_GATES ?v_MOST_RESOURCES ?v_MOST_SCRIPTS ?v_MOST_STORES ?v_MOST_TIMES ?a_DISCIPLINES ?l_DISCIPLINES ?s_DISCIPLINES ?x_DISCIPLINES ?a_GATE_WORDS ?l_GATE_WORDS ?s_GATE_WORDS ?x_GATE_WORDS ?a_KINDS ?l_KINDS ?y_KINDS ?o_KINDS ?nf_KINDS ?nr_KINDS ?kt_wait ?l_k_wait ?s_k_wait ?x_k_wait ?kt_take ?l_k_take ?s_k_take ?x_k_take ?kt_give ?l_k_give ?s_k_give ?x_k_give ?kt_put ?l_k_put ?s_k_put ?x_k_put ?kt_get ?l_k_get ?s_k_get ?x_k_get ?kt_pass ?l_k_pass ?s_k_pass ?x_k_pass ?kt_open ?l_k_open ?s_k_open ?x_k_open ?kt_shut ?l_k_shut ?s_k_shut ?x_k_shut ?kt_rouse ?l_k_rouse ?s_k_rouse ?x_k_rouse ?kt_mark ?l_k_mark ?s_k_mark ?x_k_mark ?a_CL ?r_CL ?g_CL ?v_CLMOST_UNITS ?z_isinstance ?z_int ?z_bool ?z_len ?z_tuple ?z_str ?z_all ?z_range ?z_zip ?z_repr ?z_max ?z_min ?z_enumerate ?z_list ?z_sum ?z_any ?a_is_between ?l_is_between ?c_is_between ?k_is_between ?a_is_tuple ?l_is_tuple ?c_is_tuple ?k_is_tuple ?a_is_resource ?l_is_resource ?c_is_resource ?k_is_resource ?a_is_store ?l_is_store ?c_is_store ?k_is_store ?a_last_numbers ?l_last_numbers ?c_last_numbers ?k_last_numbers ?a_is_plain ?l_is_plain ?c_is_plain ?k_is_plain ?a_is_instruction ?l_is_instruction ?c_is_instruction ?k_is_instruction ?a_is_repeat ?l_is_repeat ?c_is_repeat ?k_is_repeat ?a_are_instructions ?l_are_instructions ?c_are_instructions ?k_are_instructions ?a_is_body ?l_is_body ?c_is_body ?k_is_body ?a_is_forever ?l_is_forever ?c_is_forever ?k_is_forever ?a_is_script ?l_is_script ?c_is_script ?k_is_script ?a_are_scripts ?l_are_scripts ?c_are_scripts ?k_are_scripts ?a_has_parts ?l_has_parts ?c_has_parts ?k_has_parts ?a_units_after ?l_units_after ?c_units_after ?k_units_after ?a_is_balanced ?l_is_balanced ?c_is_balanced ?k_is_balanced ?a_time_of ?l_time_of ?c_time_of ?k_time_of ?a_makes_progress ?l_makes_progress ?c_makes_progress ?k_makes_progress ?a_meets_conditions ?l_meets_conditions ?c_meets_conditions ?k_meets_conditions ?a_is_model ?l_is_model ?c_is_model ?k_is_model ?a_check_model ?l_check_model ?c_check_model ?k_check_model ?a_join_parts ?l_join_parts ?c_join_parts ?k_join_parts ?a_script_lines ?l_script_lines ?c_script_lines ?k_script_lines ?a_format_model ?l_format_model ?c_format_model ?k_format_model ?a_law_cell_at ?l_law_cell_at ?c_law_cell_at ?k_law_cell_at ?a_law_pen ?l_law_pen ?c_law_pen ?k_law_pen ?a_law_draw ?l_law_draw ?c_law_draw ?k_law_draw ?a_law_pick ?l_law_pick ?c_law_pick ?k_law_pick ?a_law_chunk ?l_law_chunk ?c_law_chunk ?k_law_chunk ?a_law_body ?l_law_body ?c_law_body ?k_law_body ?a_law_script ?l_law_script ?c_law_script ?k_law_script ?a_law_has_rouse ?l_law_has_rouse ?c_law_has_rouse ?k_law_has_rouse ?a_law_pass_time ?l_law_pass_time ?c_law_pass_time ?k_law_pass_time ?a_law_cost ?l_law_cost ?c_law_cost ?k_law_cost ?a_law_fitted ?l_law_fitted ?c_law_fitted ?k_law_fitted ?a_law_store ?l_law_store ?c_law_store ?k_law_store ?a_law_model ?l_law_model ?c_law_model ?k_law_model ?a_law_lines ?l_law_lines ?c_law_lines ?k_law_lines ?a_law_text ?l_law_text ?c_law_text ?k_law_text ?a_law_same ?l_law_same ?c_law_same ?k_law_same ?a_law_wide ?l_law_wide ?c_law_wide ?k_law_wide ?a_law ?l_law ?c_law ?k_law
    (case v_LAST_ITEM => k_is)
    (case v_LAST_MARK => k_is)
    (case v_LAST_RANK => k_is)
    (case v_MOST_CAPACITY => k_is)
    (case v_MOST_DEPTH => k_is)
    (case v_MOST_GATES => k_is)
    (case v_MOST_RESOURCES => k_is)
    (case v_MOST_SCRIPTS => k_is)
    (case v_MOST_STORES => k_is)
    (case v_MOST_TIMES => k_is)
    (case a_DISCIPLINES => k_is)
    (case l_DISCIPLINES => k_is)
    (case s_DISCIPLINES => (first | decide | exact (by decide)))
    (case x_DISCIPLINES => rfl)
    (case a_GATE_WORDS => k_is)
    (case l_GATE_WORDS => k_is)
    (case s_GATE_WORDS => (first | decide | exact (by decide)))
    (case x_GATE_WORDS => rfl)
    (case a_KINDS => k_is)
    (case l_KINDS => k_is)
    (case y_KINDS => k_keys)
    (case o_KINDS => decide)
    (case nf_KINDS => k_is)
    (case nr_KINDS => k_is)
    (case kt_wait => k_is)
    (case l_k_wait => k_is)
    (case s_k_wait => (first | decide | exact (by decide)))
    (case x_k_wait => rfl)
    (case kt_take => k_is)
    (case l_k_take => k_is)
    (case s_k_take => (first | decide | exact (by decide)))
    (case x_k_take => rfl)
    (case kt_give => k_is)
    (case l_k_give => k_is)
    (case s_k_give => (first | decide | exact (by decide)))
    (case x_k_give => rfl)
    (case kt_put => k_is)
    (case l_k_put => k_is)
    (case s_k_put => (first | decide | exact (by decide)))
    (case x_k_put => rfl)
    (case kt_get => k_is)
    (case l_k_get => k_is)
    (case s_k_get => (first | decide | exact (by decide)))
    (case x_k_get => rfl)
    (case kt_pass => k_is)
    (case l_k_pass => k_is)
    (case s_k_pass => (first | decide | exact (by decide)))
    (case x_k_pass => rfl)
    (case kt_open => k_is)
    (case l_k_open => k_is)
    (case s_k_open => (first | decide | exact (by decide)))
    (case x_k_open => rfl)
    (case kt_shut => k_is)
    (case l_k_shut => k_is)
    (case s_k_shut => (first | decide | exact (by decide)))
    (case x_k_shut => rfl)
    (case kt_rouse => k_is)
    (case l_k_rouse => k_is)
    (case s_k_rouse => (first | decide | exact (by decide)))
    (case x_k_rouse => rfl)
    (case kt_mark => k_is)
    (case l_k_mark => k_is)
    (case s_k_mark => (first | decide | exact (by decide)))
    (case x_k_mark => rfl)
    (case a_CL => k_is)
    (case r_CL => k_is)
    (case g_CL => k_is)
    (case v_CLMOST_UNITS => k_is)
    (case z_isinstance => k_is)
    (case z_int => k_is)
    (case z_bool => k_is)
    (case z_len => k_is)
    (case z_tuple => k_is)
    (case z_str => k_is)
    (case z_all => k_is)
    (case z_range => k_is)
    (case z_zip => k_is)
    (case z_repr => k_is)
    (case z_max => k_is)
    (case z_min => k_is)
    (case z_enumerate => k_is)
    (case z_list => k_is)
    (case z_sum => k_is)
    (case z_any => k_is)
    (case a_is_between => k_is)
    (case l_is_between => k_is)
    (case c_is_between => k_is)
    (case k_is_between => k_is)
    (case a_is_tuple => k_is)
    (case l_is_tuple => k_is)
    (case c_is_tuple => k_is)
    (case k_is_tuple => k_is)
    (case a_is_resource => k_is)
    (case l_is_resource => k_is)
    (case c_is_resource => k_is)
    (case k_is_resource => k_is)
    (case a_is_store => k_is)
    (case l_is_store => k_is)
    (case c_is_store => k_is)
    (case k_is_store => k_is)
    (case a_last_numbers => k_is)
    (case l_last_numbers => k_is)
    (case c_last_numbers => k_is)
    (case k_last_numbers => k_is)
    (case a_is_plain => k_is)
    (case l_is_plain => k_is)
    (case c_is_plain => k_is)
    (case k_is_plain => k_is)
    (case a_is_instruction => k_is)
    (case l_is_instruction => k_is)
    (case c_is_instruction => k_is)
    (case k_is_instruction => k_is)
    (case a_is_repeat => k_is)
    (case l_is_repeat => k_is)
    (case c_is_repeat => k_is)
    (case k_is_repeat => k_is)
    (case a_are_instructions => k_is)
    (case l_are_instructions => k_is)
    (case c_are_instructions => k_is)
    (case k_are_instructions => k_is)
    (case a_is_body => k_is)
    (case l_is_body => k_is)
    (case c_is_body => k_is)
    (case k_is_body => k_is)
    (case a_is_forever => k_is)
    (case l_is_forever => k_is)
    (case c_is_forever => k_is)
    (case k_is_forever => k_is)
    (case a_is_script => k_is)
    (case l_is_script => k_is)
    (case c_is_script => k_is)
    (case k_is_script => k_is)
    (case a_are_scripts => k_is)
    (case l_are_scripts => k_is)
    (case c_are_scripts => k_is)
    (case k_are_scripts => k_is)
    (case a_has_parts => k_is)
    (case l_has_parts => k_is)
    (case c_has_parts => k_is)
    (case k_has_parts => k_is)
    (case a_units_after => k_is)
    (case l_units_after => k_is)
    (case c_units_after => k_is)
    (case k_units_after => k_is)
    (case a_is_balanced => k_is)
    (case l_is_balanced => k_is)
    (case c_is_balanced => k_is)
    (case k_is_balanced => k_is)
    (case a_time_of => k_is)
    (case l_time_of => k_is)
    (case c_time_of => k_is)
    (case k_time_of => k_is)
    (case a_makes_progress => k_is)
    (case l_makes_progress => k_is)
    (case c_makes_progress => k_is)
    (case k_makes_progress => k_is)
    (case a_meets_conditions => k_is)
    (case l_meets_conditions => k_is)
    (case c_meets_conditions => k_is)
    (case k_meets_conditions => k_is)
    (case a_is_model => k_is)
    (case l_is_model => k_is)
    (case c_is_model => k_is)
    (case k_is_model => k_is)
    (case a_check_model => k_is)
    (case l_check_model => k_is)
    (case c_check_model => k_is)
    (case k_check_model => k_is)
    (case a_join_parts => k_is)
    (case l_join_parts => k_is)
    (case c_join_parts => k_is)
    (case k_join_parts => k_is)
    (case a_script_lines => k_is)
    (case l_script_lines => k_is)
    (case c_script_lines => k_is)
    (case k_script_lines => k_is)
    (case a_format_model => k_is)
    (case l_format_model => k_is)
    (case c_format_model => k_is)
    (case k_format_model => k_is)
    (case a_law_cell_at => k_is)
    (case l_law_cell_at => k_is)
    (case c_law_cell_at => k_is)
    (case k_law_cell_at => k_is)
    (case a_law_pen => k_is)
    (case l_law_pen => k_is)
    (case c_law_pen => k_is)
    (case k_law_pen => k_is)
    (case a_law_draw => k_is)
    (case l_law_draw => k_is)
    (case c_law_draw => k_is)
    (case k_law_draw => k_is)
    (case a_law_pick => k_is)
    (case l_law_pick => k_is)
    (case c_law_pick => k_is)
    (case k_law_pick => k_is)
    (case a_law_chunk => k_is)
    (case l_law_chunk => k_is)
    (case c_law_chunk => k_is)
    (case k_law_chunk => k_is)
    (case a_law_body => k_is)
    (case l_law_body => k_is)
    (case c_law_body => k_is)
    (case k_law_body => k_is)
    (case a_law_script => k_is)
    (case l_law_script => k_is)
    (case c_law_script => k_is)
    (case k_law_script => k_is)
    (case a_law_has_rouse => k_is)
    (case l_law_has_rouse => k_is)
    (case c_law_has_rouse => k_is)
    (case k_law_has_rouse => k_is)
    (case a_law_pass_time => k_is)
    (case l_law_pass_time => k_is)
    (case c_law_pass_time => k_is)
    (case k_law_pass_time => k_is)
    (case a_law_cost => k_is)
    (case l_law_cost => k_is)
    (case c_law_cost => k_is)
    (case k_law_cost => k_is)
    (case a_law_fitted => k_is)
    (case l_law_fitted => k_is)
    (case c_law_fitted => k_is)
    (case k_law_fitted => k_is)
    (case a_law_store => k_is)
    (case l_law_store => k_is)
    (case c_law_store => k_is)
    (case k_law_store => k_is)
    (case a_law_model => k_is)
    (case l_law_model => k_is)
    (case c_law_model => k_is)
    (case k_law_model => k_is)
    (case a_law_lines => k_is)
    (case l_law_lines => k_is)
    (case c_law_lines => k_is)
    (case k_law_lines => k_is)
    (case a_law_text => k_is)
    (case l_law_text => k_is)
    (case c_law_text => k_is)
    (case k_law_text => k_is)
    (case a_law_same => k_is)
    (case l_law_same => k_is)
    (case c_law_same => k_is)
    (case k_law_same => k_is)
    (case a_law_wide => k_is)
    (case l_law_wide => k_is)
    (case c_law_wide => k_is)
    (case k_law_wide => k_is)
    (case a_law => k_is)
    (case l_law => k_is)
    (case c_law => k_is)
    (case k_law => k_is)
