import PyProof.Rows.All
import Wide.All
import OpenK.AllK
import Wide.FinOn
import HandS.ForMost
import HandS.ForExc
import HandS.Flow
import HandS.Property
import HandS.IsInst
import HandS.SortRule
import HandS.CallSlots
import HandS.Wide
import HandS.Evl
import HandS.Lambda
import HandS.TupAny
import HandS.TupLe
import HandS.Style
import HandS.Conv
import HandS.Zip
import HandS.Small
import HandS.FStr
import HandS.RaiseMore
import HandS.TryOnly
import KE.KSuper
import KE.DataMinMax
import KE.SortData
import KE.DataFind
import HandS.More
import HandS.ClsMeth
import HandS.Deep
import KE.KRevSl
import HandS.TupMul
import KE.GoesMore
import PyProof.EnumMake
import HandS.Star
import PyProof.SeqRoads
import HandS.EndTab
import HandS.HotCalls
import HandS.ExcIs
import HandS.ExcInit
import HandS.ExcField
import KE.KExcSuper
import HandS.TryMany
import KE.KExcIs
import OpenK.KOps
import PyProof.InstNe
import KE.KTypeName
import KE.RegKSuper
import PySem.Challenge.RW_eventsim_k17_lines_equal
set_option Elab.async false
set_option linter.all false
set_option maxRecDepth 100000
set_option maxHeartbeats 4000000
/-! D1: values as deep data, objects that change as a small store; what relates them to the hand layer's heap. -/
namespace Dl
open PySem PySem.Spec PyProof.Rows L2 Evl

/-! ### data and values -/
mutual
inductive Da (K : PySem.W.Frag) (H : Hp) : V → PyData → Prop
  | non : Da K H .non .none
  | bl (b : Bool) : Da K H (.bl b) (.bool b)
  | int (i : Int) : Da K H (.int i) (.int i)
  | str (x : Str) : Da K H (.str x) (.str x)
  | lst {a : Addr} {vs : List V} {ds : List PyData} : Rd H a (.lst vs) → DaAll K H vs ds → Da K H (.ref a) (.list ds)
  | tup {a : Addr} {vs : List V} {ds : List PyData} : SqT K H a vs → DaAll K H vs ds → Da K H (.ref a) (.tuple ds)
  | dic {a : Addr} {kvs : List (Key × V)} {ks ds : List PyData} {es : List (PyData × PyData)} : Rd H a (.dK kvs) →
      DaAll K H (kvs.map fun p => kV p.1) ks → DaAll K H (kvs.map fun p => p.2) ds → es = ks.zip ds → Da K H (.ref a) (.dict es)
inductive DaAll (K : PySem.W.Frag) (H : Hp) : List V → List PyData → Prop
  | nil : DaAll K H [] []
  | cons {v : V} {vs : List V} {d : PyData} {ds : List PyData} : Da K H v d → DaAll K H vs ds → DaAll K H (v :: vs) (d :: ds)
end

section
variable {K : PySem.W.Frag} {H H' : Hp}
mutual
theorem Da.mono (e : Ex H H') : ∀ {v : V} {d : PyData}, Da K H v d → Da K H' v d
  | _, _, .non => .non
  | _, _, .bl b => .bl b
  | _, _, .int i => .int i
  | _, _, .str x => .str x
  | _, _, .lst s h => .lst (ex_rd e s) (DaAll.mono e h)
  | _, _, .tup s h => .tup (ex_t e s) (DaAll.mono e h)
  | _, _, .dic r h1 h2 q => .dic (ex_rd e r) (DaAll.mono e h1) (DaAll.mono e h2) q
theorem DaAll.mono (e : Ex H H') : ∀ {vs : List V} {ds : List PyData}, DaAll K H vs ds → DaAll K H' vs ds
  | _, _, .nil => .nil
  | _, _, .cons h t => .cons (Da.mono e h) (DaAll.mono e t)
end
theorem DaAll.length : ∀ {vs : List V} {ds : List PyData}, DaAll K H vs ds → vs.length = ds.length
  | _, _, .nil => rfl
  | _, _, .cons _ t => congrArg Nat.succ t.length
theorem DaAll.app : ∀ {vs ws : List V} {ds es : List PyData}, DaAll K H vs ds → DaAll K H ws es → DaAll K H (vs ++ ws) (ds ++ es)
  | _, _, _, _, .nil, t => t
  | _, _, _, _, .cons h s, t => .cons h (s.app t)
theorem DaAll.get : ∀ {vs : List V} {ds : List PyData} {i : Nat} {d : PyData}, DaAll K H vs ds → ds[i]? = some d → ∃ v, vs[i]? = some v ∧ Da K H v d
  | _, _, _, _, .nil, e => by simp at e
  | _, _, 0, _, .cons h _, e => by simp at e; subst e; exact ⟨_, rfl, h⟩
  | _, _, i + 1, d, .cons _ t, e => by
    obtain ⟨v, h1, h2⟩ := DaAll.get (i := i) (d := d) t (by simpa using e)
    exact ⟨v, by simpa using h1, h2⟩
theorem DaAll.get' : ∀ {vs : List V} {ds : List PyData} {i : Nat} {v : V}, DaAll K H vs ds → vs[i]? = some v → ∃ d, ds[i]? = some d ∧ Da K H v d
  | _, _, _, _, .nil, e => by simp at e
  | _, _, 0, _, .cons h _, e => by simp at e; subst e; exact ⟨_, rfl, h⟩
  | _, _, i + 1, v, .cons _ t, e => by
    obtain ⟨d, h1, h2⟩ := DaAll.get' (i := i) (v := v) t (by simpa using e)
    exact ⟨d, by simpa using h1, h2⟩
theorem DaAll.take : ∀ {vs : List V} {ds : List PyData} (n : Nat), DaAll K H vs ds → DaAll K H (vs.take n) (ds.take n)
  | _, _, 0, _ => by simp; exact .nil
  | _, _, n + 1, .nil => by simp; exact .nil
  | _, _, n + 1, .cons h t => by simp; exact .cons h (t.take n)
theorem DaAll.drop : ∀ {vs : List V} {ds : List PyData} (n : Nat), DaAll K H vs ds → DaAll K H (vs.drop n) (ds.drop n)
  | _, _, 0, h => by simpa using h
  | _, _, n + 1, .nil => by simp; exact .nil
  | _, _, n + 1, .cons _ t => by simpa using t.drop n
theorem DaAll.rev : ∀ {vs : List V} {ds : List PyData}, DaAll K H vs ds → DaAll K H vs.reverse ds.reverse
  | _, _, .nil => .nil
  | _, _, .cons h t => by
    rw [List.reverse_cons, List.reverse_cons]
    exact t.rev.app (.cons h .nil)
theorem DaAll.ints : ∀ (ns : List Int), DaAll K H (ns.map V.int) (ns.map PyData.int)
  | [] => .nil
  | n :: ns => .cons (.int n) (DaAll.ints ns)
end

/-- a value: data, or the address of an object that may change (or of a def, a class) , or any other -/
inductive Y where
  | d (x : PyData)
  | l (a : Addr)
  | v (x : V)
  /-- a list that is read alone -/
  | r (ds : List PyData)

inductive RV (K : PySem.W.Frag) (G : Hp) : V → Y → Prop
  | d {w : V} {x : PyData} : Da K G w x → RV K G w (.d x)
  | l (a : Addr) : RV K G (.ref a) (.l a)
  | v (x : V) : RV K G x (.v x)
  | r {a : Addr} {vs : List V} {ds : List PyData} : SqL K G a vs → DaAll K G vs ds → RV K G (.ref a) (.r ds)
theorem RV.da {K : PySem.W.Frag} {G : Hp} {w : V} {x : PyData} (h : RV K G w (.d x)) : Da K G w x := by
  cases h; assumption
abbrev RVs (K : PySem.W.Frag) (G : Hp) : List V → List Y → Prop := Paired (RV K G)

section
variable {K : PySem.W.Frag} {G G' : Hp}
theorem RV.mono (e : Ex G G') {w : V} : ∀ {y : Y}, RV K G w y → RV K G' w y
  | _, .d h => .d (Da.mono e h)
  | _, .l a => .l a
  | _, .v x => .v x
  | _, .r s h => .r (ex_l e s) (DaAll.mono e h)
theorem RVs.mono (e : Ex G G') : ∀ {ws : List V} {ys : List Y}, RVs K G ws ys → RVs K G' ws ys
  | _, _, .nil => .nil
  | _, _, .cons h t => .cons (h.mono e) (RVs.mono e t)
theorem RVs.length : ∀ {ws : List V} {ys : List Y}, RVs K G ws ys → ws.length = ys.length
  | _, _, .nil => rfl
  | _, _, .cons _ t => congrArg Nat.succ (RVs.length t)
theorem RVs.app : ∀ {ws ws' : List V} {ys ys' : List Y}, RVs K G ws ys → RVs K G ws' ys' → RVs K G (ws ++ ws') (ys ++ ys')
  | _, _, _, _, .nil, t => t
  | _, _, _, _, .cons h s, t => .cons h (RVs.app s t)
theorem RVs.get : ∀ {ws : List V} {ys : List Y} {i : Nat} {y : Y}, RVs K G ws ys → ys[i]? = some y → ∃ w, ws[i]? = some w ∧ RV K G w y
  | _, _, _, _, .nil, e => by simp at e
  | _, _, 0, _, .cons h _, e => by simp at e; subst e; exact ⟨_, rfl, h⟩
  | _, _, i + 1, y, .cons _ t, e => by
    obtain ⟨v, h1, h2⟩ := RVs.get (i := i) (y := y) t (by simpa using e)
    exact ⟨v, by simpa using h1, h2⟩
theorem RVs.get' : ∀ {ws : List V} {ys : List Y} {i : Nat} {w : V}, RVs K G ws ys → ws[i]? = some w → ∃ y, ys[i]? = some y ∧ RV K G w y
  | _, _, _, _, .nil, e => by simp at e
  | _, _, 0, _, .cons h _, e => by simp at e; subst e; exact ⟨_, rfl, h⟩
  | _, _, i + 1, w, .cons _ t, e => by
    obtain ⟨v, h1, h2⟩ := RVs.get' (i := i) (w := w) t (by simpa using e)
    exact ⟨v, by simpa using h1, h2⟩
theorem RVs.set {w : V} {y : Y} (h : RV K G w y) : ∀ {ws : List V} {ys : List Y} (i : Nat), RVs K G ws ys → RVs K G (ws.set i w) (ys.set i y)
  | _, _, _, .nil => .nil
  | _, _, 0, .cons _ t => .cons h t
  | _, _, i + 1, .cons q t => .cons q (RVs.set h i t)
theorem RVs.eraseIdx : ∀ {ws : List V} {ys : List Y} (i : Nat), RVs K G ws ys → RVs K G (ws.eraseIdx i) (ys.eraseIdx i)
  | _, _, _, .nil => .nil
  | _, _, 0, .cons _ t => t
  | _, _, i + 1, .cons q t => .cons q (RVs.eraseIdx i t)
theorem RVs.take : ∀ {ws : List V} {ys : List Y} (n : Nat), RVs K G ws ys → RVs K G (ws.take n) (ys.take n)
  | _, _, 0, _ => by simp; exact .nil
  | _, _, n + 1, .nil => by simp; exact .nil
  | _, _, n + 1, .cons h t => by simp; exact .cons h (RVs.take n t)
theorem RVs.drop : ∀ {ws : List V} {ys : List Y} (n : Nat), RVs K G ws ys → RVs K G (ws.drop n) (ys.drop n)
  | _, _, 0, h => by simpa using h
  | _, _, n + 1, .nil => by simp; exact .nil
  | _, _, n + 1, .cons _ t => by simpa using RVs.drop n t
theorem DaAll.rvs : ∀ {ws : List V} {ds : List PyData}, DaAll K G ws ds → RVs K G ws (ds.map Y.d)
  | _, _, .nil => .nil
  | _, _, .cons h t => .cons (.d h) t.rvs
theorem RVs.das : ∀ {ws : List V} {ds : List PyData}, RVs K G ws (ds.map Y.d) → DaAll K G ws ds
  | [], [], .nil => .nil
  | _ :: _, _ :: _, .cons h t => .cons h.da (RVs.das t)
end

/-! ### the store of objects that may change -/
inductive MO where
  | lst (ys : List Y)
  | tup (ys : List Y)
  | ins (C dx : Addr) (fs : List (Str × Y))
  | dic (kvs : List (Key × Y))
  /-- a table of code objects; T: all tables with the names of what they tell -/
  | tab (T : List (Addr × Str))
abbrev Mu := Addr → Option MO
def mu (m : Mu) (a : Addr) (o : MO) : Mu := fun b => if b = a then some o else m b
theorem mu_same {m : Mu} {a : Addr} {o : MO} : mu m a o a = some o := if_pos rfl
theorem mu_ne {m : Mu} {a b : Addr} {o : MO} (h : b ≠ a) : mu m a o b = m b := if_neg h
theorem mu_mu {m : Mu} {a : Addr} {o u : MO} : mu (mu m a o) a u = mu m a u := by
  funext b; unfold mu; split <;> rfl
theorem mu_self {m : Mu} {a : Addr} {o : MO} (h : m a = some o) : mu m a o = m := by
  funext b; unfold mu; split
  · rename_i e; rw [e, h]
  · rfl
abbrev RF (K : PySem.W.Frag) (G : Hp) : List (Str × V) → List (Str × Y) → Prop := Paired fun p q => p.1 = q.1 ∧ RV K G p.2 q.2
abbrev RK (K : PySem.W.Frag) (G : Hp) : List (Key × V) → List (Key × Y) → Prop := Paired fun p q => p.1 = q.1 ∧ RV K G p.2 q.2
inductive RO (K : PySem.W.Frag) (G : Hp) : HO → MO → Prop
  | lst {ws : List V} {ys : List Y} : RVs K G ws ys → RO K G (.lst ws) (.lst ys)
  | tup {ws : List V} {ys : List Y} : RVs K G ws ys → RO K G (.tup ws) (.tup ys)
  | ins {C dx : Addr} {fs : List (Str × V)} {gs : List (Str × Y)} : RF K G fs gs → RO K G (.ins C dx fs) (.ins C dx gs)
  | dic {fs : List (Key × V)} {gs : List (Key × Y)} : RK K G fs gs → RO K G (.dK fs) (.dic gs)
  | tab {ps : Array Value} {T : List (Addr × Str)} : RO K G (.tbl ps) (.tab T)

section
variable {K : PySem.W.Frag} {G G' H H' : Hp} {m : Mu} {p : Addr}
theorem RF.mono (e : Ex G G') : ∀ {fs : List (Str × V)} {gs : List (Str × Y)}, RF K G fs gs → RF K G' fs gs
  | _, _, .nil => .nil
  | _, _, .cons h t => .cons ⟨h.1, h.2.mono e⟩ (RF.mono e t)
theorem RK.mono (e : Ex G G') : ∀ {fs : List (Key × V)} {gs : List (Key × Y)}, RK K G fs gs → RK K G' fs gs
  | _, _, .nil => .nil
  | _, _, .cons h t => .cons ⟨h.1, h.2.mono e⟩ (RK.mono e t)
theorem RO.mono (e : Ex G G') {o : HO} {u : MO} (h : RO K G o u) : RO K G' o u := by
  cases h with
  | lst h => exact .lst (h.mono e)
  | tup h => exact .tup (h.mono e)
  | ins h => exact .ins (h.mono e)
  | dic h => exact .dic (h.mono e)
  | tab => exact .tab
/-- the table at P: what it tells is known in G -/
def TabG (G H : Hp) (P : Addr) (q : Str) : Prop := ∃ ps : Array Value, H P = some (.tbl ps) ∧ TriplesOk ps.toList ∧ ∀ (pos : Pos) (cv : Value), codeAmong pos ps.toList = some cv → ∃ c, cv = .ref c ∧ G c = some (LamX.CodeO c q)
/-- the tables of m: all of the same list, and all of this list -/
def TbOk (G : Hp) (m : Mu) (H : Hp) : Prop := ∀ a T, m a = some (.tab T) → (∃ q, (a, q) ∈ T) ∧ (∀ p ∈ T, m p.1 = some (.tab T) ∧ TabG G H p.1 p.2) ∧ ∀ b T', m b = some (.tab T') → T' = T
theorem TbOk.keep {m' : Mu} (r : TbOk G m H) (e : Ex G G') (h1 : ∀ a T, m' a = some (.tab T) → m a = some (.tab T)) (h2 : ∀ a T, m a = some (.tab T) → m' a = some (.tab T)) (h3 : ∀ a o, H a = some o → (∃ T, m a = some (.tab T)) → H' a = some o) : TbOk G' m' H' := fun a T h => by
  obtain ⟨a1, a2, a3⟩ := r a T (h1 a T h)
  refine ⟨a1, fun p hp => ?_, fun b T' hb => a3 b T' (h1 b T' hb)⟩
  obtain ⟨b1, ps, c1, c2, c3⟩ := a2 p hp
  refine ⟨h2 _ _ b1, ps, h3 _ _ c1 ⟨T, b1⟩, c2, fun pos cv hc => ?_⟩
  obtain ⟨c, d1, d2⟩ := c3 pos cv hc
  exact ⟨c, d1, e _ _ d2⟩
/-- G holds the data, m the objects that may change: both are parts of H -/
structure Rh (K : PySem.W.Frag) (G : Hp) (m : Mu) (H : Hp) : Prop where
  sub : Ex G H
  off : ∀ a o, m a = some o → G a = none
  mem : ∀ a o, m a = some o → ∃ h, H a = some h ∧ RO K G h o
  tb : TbOk G m H
  nt : ∀ b ps, G b ≠ some (.tbl ps)
theorem nt_upd {o : HO} (h : ∀ b ps, G b ≠ some (.tbl ps)) (ho : ∀ ps, o ≠ .tbl ps) : ∀ b ps, upd G p o b ≠ some (.tbl ps) := fun b ps e => by
  by_cases q : b = p
  · subst q; rw [upd_same] at e; exact ho ps (Option.some.inj e)
  · rw [upd_ne q] at e; exact h b ps e
theorem Rh.free (r : Rh K G m H) (h : H p = none) : G p = none ∧ m p = none := by
  constructor
  · cases e : G p with
    | none => rfl
    | some o => rw [r.sub p o e] at h; cases h
  · cases e : m p with
    | none => rfl
    | some o =>
      obtain ⟨u, q, _⟩ := r.mem p o e
      rw [q] at h; cases h
/-- more data -/
theorem Rh.data {o : HO} (r : Rh K G m H) (h : H p = none) (ho : ∀ ps, o ≠ .tbl ps := by intro _ z; cases z) : Ex G (upd G p o) ∧ Rh K (upd G p o) m (upd H p o) := by
  have f := r.free h
  have e1 : Ex G (upd G p o) := Ex.new f.1
  refine ⟨e1, ⟨fun a u e => ?_, fun a u e => ?_, fun a u e => ?_, r.tb.keep e1 (fun _ _ z => z) (fun _ _ z => z) fun a o e _ => by rw [upd_ne (ne_of_none e h)]; exact e, nt_upd r.nt ho⟩⟩
  · by_cases q : a = p
    · subst q; rw [upd_same] at e ⊢; exact e
    · rw [upd_ne q] at e ⊢; exact r.sub a u e
  · have q : a ≠ p := fun q => by subst q; rw [f.2] at e; cases e
    rw [upd_ne q]; exact r.off a u e
  · have q : a ≠ p := fun q => by subst q; rw [f.2] at e; cases e
    obtain ⟨w, e2, e3⟩ := r.mem a u e
    exact ⟨w, by rw [upd_ne q]; exact e2, e3.mono e1⟩
/-- a new object that may change -/
theorem mu_tab {u : MO} (hu : ∀ T, u ≠ .tab T) {a : Addr} {T : List (Addr × Str)} (h : mu m p u a = some (.tab T)) : m a = some (.tab T) := by
  by_cases q : a = p
  · subst q; rw [mu_same] at h; cases h; exact absurd rfl (hu T)
  · rw [mu_ne q] at h; exact h
theorem Rh.new {o : HO} {u : MO} (r : Rh K G m H) (h : H p = none) (ro : RO K G o u) (hu : ∀ T, u ≠ .tab T := by intro _ z; cases z) : Rh K G (mu m p u) (upd H p o) := by
  have f := r.free h
  refine ⟨fun a u e => ?_, fun a w e => ?_, fun a w e => ?_, r.tb.keep (Ex.refl G) (fun a T z => mu_tab hu z) (fun a T z => by rw [mu_ne (fun e => by rw [e, f.2] at z; cases z)]; exact z) (fun a o e _ => by rw [upd_ne (ne_of_none e h)]; exact e), r.nt⟩
  · rw [upd_ne (ne_of_none (r.sub a u e) h)]; exact r.sub a u e
  · by_cases q : a = p
    · subst q; exact f.1
    · rw [mu_ne q] at e; exact r.off a w e
  · by_cases q : a = p
    · subst q; rw [mu_same] at e; cases e; exact ⟨o, upd_same, ro⟩
    · rw [mu_ne q] at e
      obtain ⟨x, e2, e3⟩ := r.mem a w e
      exact ⟨x, by rw [upd_ne q]; exact e2, e3⟩
/-- an object changed -/
theorem Rh.write {o : HO} {u u0 : MO} (r : Rh K G m H) (h : m p = some u0) (ro : RO K G o u) (hu : ∀ T, u ≠ .tab T := by intro _ z; cases z) (hu0 : ∀ T, u0 ≠ .tab T := by intro _ z; cases z) : Rh K G (mu m p u) (upd H p o) := by
  have f := r.off p u0 h
  have np : ∀ a, (∃ T, m a = some (.tab T)) → a ≠ p := fun a ⟨T, z⟩ e => by rw [e, h] at z; cases z; exact hu0 T rfl
  refine ⟨fun a x e => ?_, fun a w e => ?_, fun a w e => ?_, r.tb.keep (Ex.refl G) (fun a T z => mu_tab hu z) (fun a T z => by rw [mu_ne (np a ⟨T, z⟩)]; exact z) (fun a o e z => by rw [upd_ne (np a z)]; exact e), r.nt⟩
  · rw [upd_ne (ne_of_none e f)]; exact r.sub a x e
  · by_cases q : a = p
    · subst q; exact f
    · rw [mu_ne q] at e; exact r.off a w e
  · by_cases q : a = p
    · subst q; rw [mu_same] at e; cases e; exact ⟨o, upd_same, ro⟩
    · rw [mu_ne q] at e
      obtain ⟨x, e2, e3⟩ := r.mem a w e
      exact ⟨x, by rw [upd_ne q]; exact e2, e3⟩
theorem Rh.lst {ys : List Y} (r : Rh K G m H) (h : m p = some (.lst ys)) : ∃ ws, H p = some (.lst ws) ∧ RVs K G ws ys := by
  obtain ⟨o, e, q⟩ := r.mem p _ h
  cases q with
  | lst q => exact ⟨_, e, q⟩
theorem Rh.tup {ys : List Y} (r : Rh K G m H) (h : m p = some (.tup ys)) : ∃ ws, H p = some (.tup ws) ∧ RVs K G ws ys := by
  obtain ⟨o, e, q⟩ := r.mem p _ h
  cases q with
  | tup q => exact ⟨_, e, q⟩
theorem Rh.ins {C dx : Addr} {gs : List (Str × Y)} (r : Rh K G m H) (h : m p = some (.ins C dx gs)) : ∃ fs, H p = some (.ins C dx fs) ∧ RF K G fs gs := by
  obtain ⟨o, e, q⟩ := r.mem p _ h
  cases q with
  | ins q => exact ⟨_, e, q⟩
theorem Rh.dic {gs : List (Key × Y)} (r : Rh K G m H) (h : m p = some (.dic gs)) : ∃ fs, H p = some (.dK fs) ∧ RK K G fs gs := by
  obtain ⟨o, e, q⟩ := r.mem p _ h
  cases q with
  | dic q => exact ⟨_, e, q⟩
/-- a lambda was made: all but the tables stays -/
theorem Rh.lam {H1 : Hp} {P : Addr} {T : List (Addr × Str)} (r : Rh K G m H) (hP : m P = some (.tab T)) (e : LamX.ExtN H H1) (t : LamX.Tabs T H1) : ∃ G1, Ex G G1 ∧ Rh K G1 m H1 ∧ ∀ c q, H1 c = some (LamX.CodeO c q) → G1 c = some (LamX.CodeO c q) := by
  classical
  obtain ⟨_, a2, a3⟩ := r.tb P T hP
  have old : ∀ b o, G b = some o → H1 b = some o := fun b o z => e b o (r.sub b o z) fun ps q => r.nt b ps (by rw [z, q])
  let G1 : Hp := fun b => if (∃ q, H1 b = some (LamX.CodeO b q)) ∧ m b = none then H1 b else G b
  have g1 : ∀ b o, G b = some o → G1 b = some o := fun b o z => by
    show (if (∃ q, H1 b = some (LamX.CodeO b q)) ∧ m b = none then H1 b else G b) = some o
    split
    · exact old b o z
    · exact z
  have sub1 : ∀ b o, G1 b = some o → H1 b = some o := fun b o z => by
    have z' : (if (∃ q, H1 b = some (LamX.CodeO b q)) ∧ m b = none then H1 b else G b) = some o := z
    split at z'
    · exact z'
    · exact old b o z'
  have tabO : ∀ a u, m a = some u → (∃ T', u = .tab T') ∨ ∃ h, H1 a = some h ∧ RO K G h u := fun a u z => by
    obtain ⟨h, q1, q2⟩ := r.mem a u z
    cases q2 with
    | tab => exact .inl ⟨_, rfl⟩
    | lst q => exact .inr ⟨_, e _ _ q1 (fun _ z => by cases z), .lst q⟩
    | tup q => exact .inr ⟨_, e _ _ q1 (fun _ z => by cases z), .tup q⟩
    | ins q => exact .inr ⟨_, e _ _ q1 (fun _ z => by cases z), .ins q⟩
    | dic q => exact .inr ⟨_, e _ _ q1 (fun _ z => by cases z), .dic q⟩
  have offC : ∀ c q, H1 c = some (LamX.CodeO c q) → m c = none := fun c q d2 => by
    cases ec : m c with
    | none => rfl
    | some u =>
      exfalso
      rcases tabO c u ec with ⟨T2, rfl⟩ | ⟨h, z1, z2⟩
      · have eT2 := a3 c T2 ec
        subst eT2
        obtain ⟨⟨q, hq⟩, _, _⟩ := r.tb c T2 ec
        obtain ⟨ps2, y1, _, _⟩ := t _ hq
        have y1' : H1 c = some (.tbl ps2) := y1
        rw [d2] at y1'
        exact LamX.codeO_ne ps2 (Option.some.inj y1')
      · rw [d2] at z1
        have := Option.some.inj z1
        unfold LamX.CodeO at this
        cases z2 <;> cases this
  have inC : ∀ c q, H1 c = some (LamX.CodeO c q) → G1 c = some (LamX.CodeO c q) := fun c q d2 => by
    show (if (∃ q, H1 c = some (LamX.CodeO c q)) ∧ m c = none then H1 c else G c) = _
    rw [if_pos ⟨⟨_, d2⟩, offC c q d2⟩]
    exact d2
  refine ⟨G1, g1, ⟨sub1, fun a u z => ?_, fun a u z => ?_, fun a T' z => ?_, fun b ps z => ?_⟩, inC⟩
  · show (if (∃ q, H1 a = some (LamX.CodeO a q)) ∧ m a = none then H1 a else G a) = none
    rw [if_neg (fun y => by rw [z] at y; cases y.2)]
    exact r.off a u z
  · rcases tabO a u z with ⟨T', rfl⟩ | ⟨h, q1, q2⟩
    · have eT := a3 a T' z
      subst eT
      obtain ⟨⟨q, hq⟩, _, _⟩ := r.tb a T' z
      obtain ⟨ps, q1, _, _⟩ := t _ hq
      exact ⟨_, q1, .tab⟩
    · exact ⟨h, q1, q2.mono g1⟩
  · obtain ⟨b1, b2, b3⟩ := r.tb a T' z
    refine ⟨b1, fun p hp => ⟨(b2 p hp).1, ?_⟩, b3⟩
    have eT := a3 a T' z
    subst eT
    obtain ⟨ps, q1, q2, q3⟩ := t p hp
    refine ⟨ps, q1, q2, fun pos cv hc => ?_⟩
    obtain ⟨c, d1, d2⟩ := q3 pos cv hc
    exact ⟨c, d1, inC c _ d2⟩
  · have z' : (if (∃ q, H1 b = some (LamX.CodeO b q)) ∧ m b = none then H1 b else G b) = some (.tbl ps) := z
    split at z'
    · rename_i y
      obtain ⟨⟨q, y1⟩, _⟩ := y
      rw [y1] at z'
      exact LamX.codeO_ne ps (Option.some.inj z')
    · exact r.nt b ps z'
/-- a list that changes no more is data from now on -/
theorem Rh.frz {ds : List PyData} (r : Rh K G m H) (h : m p = some (.lst (ds.map Y.d))) :
    ∃ G', Ex G G' ∧ Rh K G' (fun b => if b = p then none else m b) H ∧ RV K G' (.ref p) (.d (.list ds)) := by
  obtain ⟨ws, e, q⟩ := r.lst h
  have f := r.off p _ h
  have e1 : Ex G (upd G p (.lst ws)) := Ex.new f
  have np : ∀ a, (∃ T, m a = some (.tab T)) → a ≠ p := fun a ⟨T, z⟩ e => by rw [e, h] at z; cases z
  refine ⟨upd G p (.lst ws), e1, ⟨fun a u e2 => ?_, fun a u e2 => ?_, fun a u e2 => ?_, r.tb.keep e1 (fun a T z => by
    have z' : (if a = p then none else m a) = some (.tab T) := z
    by_cases q : a = p
    · rw [if_pos q] at z'; cases z'
    · rwa [if_neg q] at z') (fun a T z => by show (if a = p then none else m a) = _; rw [if_neg (np a ⟨T, z⟩)]; exact z) (fun _ _ e _ => e), nt_upd r.nt (fun _ z => by cases z)⟩, .d (.lst (.inl upd_same) ((RVs.das q).mono e1))⟩
  · by_cases z : a = p
    · subst z; rw [upd_same] at e2; cases e2; exact e
    · rw [upd_ne z] at e2; exact r.sub a u e2
  · have e2' : (if a = p then none else m a) = some u := e2
    by_cases z : a = p
    · rw [if_pos z] at e2'; cases e2'
    · rw [if_neg z] at e2'; rw [upd_ne z]; exact r.off a u e2'
  · have e2' : (if a = p then none else m a) = some u := e2
    by_cases z : a = p
    · rw [if_pos z] at e2'; cases e2'
    · rw [if_neg z] at e2'
      obtain ⟨x, e3, e4⟩ := r.mem a u e2'
      exact ⟨x, e3, e4.mono e1⟩
theorem RF.lookup {f : Str} : ∀ {fs : List (Str × V)} {gs : List (Str × Y)} {y : Y}, RF K G fs gs → gs.lookup f = some y → ∃ w, fs.lookup f = some w ∧ RV K G w y
  | _, _, _, .nil, e => by simp at e
  | (a, _) :: _, (b, _) :: _, y, .cons h t, e => by
    obtain ⟨h1, h2⟩ := h
    have h1' : a = b := h1
    subst h1'
    by_cases q : (f == a) = true
    · rw [List.lookup, q] at e ⊢
      cases e; exact ⟨_, rfl, h2⟩
    · have q' : (f == a) = false := by simpa using q
      rw [List.lookup, q'] at e ⊢
      exact RF.lookup t e
theorem RF.lookup_none {f : Str} : ∀ {fs : List (Str × V)} {gs : List (Str × Y)}, RF K G fs gs → gs.lookup f = none → fs.lookup f = none
  | _, _, .nil, _ => rfl
  | (a, _) :: _, (b, _) :: _, .cons h t, e => by
    obtain ⟨h1, h2⟩ := h
    have h1' : a = b := h1
    subst h1'
    by_cases q : (f == a) = true
    · rw [List.lookup, q] at e; cases e
    · have q' : (f == a) = false := by simpa using q
      rw [List.lookup, q'] at e ⊢
      exact RF.lookup_none t e
def putY (f : Str) (v : Y) : List (Str × Y) → List (Str × Y)
  | [] => [(f, v)]
  | (g, w) :: r => if g = f then (g, v) :: r else (g, w) :: putY f v r
theorem RF.length : ∀ {fs : List (Str × V)} {gs : List (Str × Y)}, RF K G fs gs → fs.length = gs.length
  | _, _, .nil => rfl
  | _, _, .cons _ t => congrArg Nat.succ (RF.length t)
end

/-! ### the def's slots -/
abbrev Ro := List (Option Y)
inductive RS1 (K : PySem.W.Frag) (G : Hp) : Option V → Option Y → Prop
  | any (o : Option V) : RS1 K G o none
  | is {w : V} {y : Y} : RV K G w y → RS1 K G (some w) (some y)
abbrev Rs (K : PySem.W.Frag) (G : Hp) : L2.St → Ro → Prop := Paired (RS1 K G)
section
variable {K : PySem.W.Frag} {G G' : Hp}
theorem Rs.mono (e : Ex G G') : ∀ {s : L2.St} {r : Ro}, Rs K G s r → Rs K G' s r
  | _, _, .nil => .nil
  | _, _, .cons h t => .cons (by cases h with | any => exact .any _ | is q => exact .is (q.mono e)) (Rs.mono e t)
theorem Rs.get : ∀ {s : L2.St} {r : Ro} {i : Nat} {y : Y}, Rs K G s r → r[i]? = some (some y) → ∃ w, s[i]? = some (some w) ∧ RV K G w y
  | _, _, _, _, .nil, e => by simp at e
  | _, _, 0, _, .cons h _, e => by
    simp at e; subst e
    cases h with
    | is q => exact ⟨_, rfl, q⟩
  | _, _, i + 1, y, .cons _ t, e => by
    obtain ⟨v, h1, h2⟩ := Rs.get (i := i) (y := y) t (by simpa using e)
    exact ⟨v, by simpa using h1, h2⟩
theorem Rs.set {w : V} {y : Y} (h : RV K G w y) : ∀ {s : L2.St} {r : Ro} (i : Nat), Rs K G s r → Rs K G (s.set i (some w)) (r.set i (some y))
  | _, _, _, .nil => .nil
  | _, _, 0, .cons _ t => .cons (.is h) t
  | _, _, i + 1, .cons q t => .cons q (Rs.set h i t)
theorem Rs.wipe1 : ∀ {s : L2.St} {r : Ro} (i : Nat), Rs K G s r → Rs K G (s.set i none) (r.set i none)
  | _, _, _, .nil => .nil
  | _, _, 0, .cons _ t => .cons (.any _) t
  | _, _, i + 1, .cons q t => .cons q (Rs.wipe1 i t)
theorem Rs.forget : ∀ {s : L2.St} {r : Ro} (i : Nat), Rs K G s r → Rs K G s (r.set i none)
  | _, _, _, .nil => .nil
  | _, _, 0, .cons _ t => .cons (.any _) t
  | _, _, i + 1, .cons q t => .cons q (Rs.forget i t)
theorem Rs.length : ∀ {s : L2.St} {r : Ro}, Rs K G s r → s.length = r.length
  | _, _, .nil => rfl
  | _, _, .cons _ t => congrArg Nat.succ (Rs.length t)
/-- less known -/
theorem Rs.le {s : L2.St} : ∀ {r r' : Ro}, Rs K G s r → Paired (fun a b => b = none ∨ b = a) r r' → Rs K G s r' := by
  intro r r' h
  induction h generalizing r' with
  | nil => intro q; cases q; exact .nil
  | cons h t ih =>
    intro q
    cases q with
    | cons q1 q2 =>
      rcases q1 with q1 | q1
      · subst q1; exact .cons (.any _) (ih q2)
      · subst q1; exact .cons h (ih q2)
end
end Dl
/-! D2: readings by what they mean (SE ..), data transformers (XE ..), what joins them (DE ..); expressions. -/
namespace Dl
open PySem PySem.Spec PyProof.Rows L2 Evl

/-! ### readings by what they mean -/
section
variable (X : Cx)
def SE (e : Expr) : TE := fun σ H Q => ∀ (pins : List (Addr × Obj)) (s : Shared), Inv X pins σ H s → wpAny (model X.prog X.w) X.A (eval e X.env) (EP X pins σ Q) X.xe s
def STe (e : Expr) : TT := fun σ H Q => ∀ (pins : List (Addr × Obj)) (s : Shared), Inv X pins σ H s → wpAny (model X.prog X.w) X.A (isTrue e X.env (eval e X.env)) (TP X pins σ Q) X.xe s
def SWe (e : Expr) : TT := fun σ H Q => ∀ (wh : Sem Value) (pins : List (Addr × Obj)) (s : Shared), Inv X pins σ H s → wpAny (model X.prog X.w) X.A (isTrue e X.env wh) (TP X pins σ Q) X.xe s
def SA (es : List Expr) : TA := fun σ H Q => ∀ (pos : Pos) (pins : List (Addr × Obj)) (s : Shared), Inv X pins σ H s → wpAny (model X.prog X.w) X.A (spliced (backTo pos (starEach es X.env))) (AP X pins σ Q) X.xe s
end
section
variable {X : Cx} {e : Expr} {es : List Expr} {σ : L2.St} {H : Hp}
theorem se_pe : PE X e (SE X e) := ⟨fun pins s _ _ _ I h => h pins s I⟩
theorem st_pt : PT X e (STe X e) := ⟨fun pins s _ _ _ I h => h pins s I⟩
theorem sw_pw : PW X e (SWe X e) := ⟨fun wh pins s _ _ _ I h => h wh pins s I⟩
theorem sa_pa : PA X es (SA X es) := ⟨fun pos pins s _ _ _ I h => h pos pins s I⟩
theorem se_of {t : TE} {Q : VK} (h : PE X e t) (q : t σ H Q) : SE X e σ H Q := fun pins s I => h.run pins s σ H Q I q
theorem st_of' {t : TT} {Q : Bool → Hp → Prop} (h : PT X e t) (q : t σ H Q) : STe X e σ H Q := fun pins s I => h.run pins s σ H Q I q
theorem sw_of {t : TT} {Q : Bool → Hp → Prop} (h : PW X e t) (q : t σ H Q) : SWe X e σ H Q := fun wh pins s I => h.run wh pins s σ H Q I q
theorem sa_of {t : TA} {Q : List V → Hp → Prop} (h : PA X es t) (q : t σ H Q) : SA X es σ H Q := fun pos pins s I => h.run pos pins s σ H Q I q
end

/-! ### data transformers -/
abbrev XP := Value → List (Str × Y) → Mu → Prop
abbrev XE := Ro → Mu → (Y → Mu → Prop) → XP → Prop
abbrev XT := Ro → Mu → (Bool → Mu → Prop) → XP → Prop
abbrev XA := Ro → Mu → (List Y → Mu → Prop) → XP → Prop
def XF (K : PySem.W.Frag) (G H : Hp) (d : Option Addr) (fs : List (Str × Y)) : Prop := (fs = [] ∧ d = none) ∨ fs ≠ [] ∧ ∃ a vs, d = some a ∧ H a = some (.xd vs) ∧ G a = none ∧ RF K G vs fs
def CvE (K : PySem.W.Frag) (G : Hp) (F : Y → Mu → Prop) (Q : VK) : Prop := ∀ v y G' m' H', Ex G G' → Rh K G' m' H' → RV K G' v y → F y m' → Q v H'
def CvT (K : PySem.W.Frag) (G : Hp) (F : Bool → Mu → Prop) (Q : Bool → Hp → Prop) : Prop := ∀ b G' m' H', Ex G G' → Rh K G' m' H' → F b m' → Q b H'
def CvA (K : PySem.W.Frag) (G : Hp) (F : List Y → Mu → Prop) (Q : List V → Hp → Prop) : Prop := ∀ vs ys G' m' H', Ex G G' → Rh K G' m' H' → RVs K G' vs ys → F ys m' → Q vs H'
def CvX (K : PySem.W.Frag) (G : Hp) (P : XP) (E : XK) : Prop := ∀ cls d fs G' m' H', Ex G G' → Rh K G' m' H' → XF K G' H' d fs → P cls fs m' → E cls d H'
section
variable {K : PySem.W.Frag} {G G' : Hp}
theorem CvE.mono {F : Y → Mu → Prop} {Q : VK} (e : Ex G G') (c : CvE K G F Q) : CvE K G' F Q := fun v y G1 m H e1 => c v y G1 m H (e.trans e1)
theorem CvT.mono {F : Bool → Mu → Prop} {Q : Bool → Hp → Prop} (e : Ex G G') (c : CvT K G F Q) : CvT K G' F Q := fun b G1 m H e1 => c b G1 m H (e.trans e1)
theorem CvA.mono {F : List Y → Mu → Prop} {Q : List V → Hp → Prop} (e : Ex G G') (c : CvA K G F Q) : CvA K G' F Q := fun v y G1 m H e1 => c v y G1 m H (e.trans e1)
theorem CvX.mono {P : XP} {E : XK} (e : Ex G G') (c : CvX K G P E) : CvX K G' P E := fun v y f G1 m H e1 => c v y f G1 m H (e.trans e1)
theorem CvE.at {F : Y → Mu → Prop} {Q : VK} {m : Mu} {H : Hp} {v : V} {y : Y} (c : CvE K G F Q) (r : Rh K G m H) (rv : RV K G v y) (h : F y m) : Q v H := c v y G m H (Ex.refl G) r rv h
end
abbrev WEx (W : WX) (σ : L2.St) : XK := fun c d H => W c d σ H

structure DE (X : Cx) (W : WX) (e : Expr) (t : XE) : Prop where
  run : ∀ {G : Hp} {r : Ro} {m : Mu} {σ : L2.St} {H : Hp} {F : Y → Mu → Prop} {P : XP} {Q : VK}, Rs X.K G σ r → Rh X.K G m H → t r m F P → CvE X.K G F Q → CvX X.K G P (WEx W σ) → SE X e σ H Q
structure DT (X : Cx) (W : WX) (e : Expr) (t : XT) : Prop where
  run : ∀ {G : Hp} {r : Ro} {m : Mu} {σ : L2.St} {H : Hp} {F : Bool → Mu → Prop} {P : XP} {Q : Bool → Hp → Prop}, Rs X.K G σ r → Rh X.K G m H → t r m F P → CvT X.K G F Q → CvX X.K G P (WEx W σ) → STe X e σ H Q
structure DW (X : Cx) (W : WX) (e : Expr) (t : XT) : Prop where
  run : ∀ {G : Hp} {r : Ro} {m : Mu} {σ : L2.St} {H : Hp} {F : Bool → Mu → Prop} {P : XP} {Q : Bool → Hp → Prop}, Rs X.K G σ r → Rh X.K G m H → t r m F P → CvT X.K G F Q → CvX X.K G P (WEx W σ) → SWe X e σ H Q
structure DA (X : Cx) (W : WX) (es : List Expr) (t : XA) : Prop where
  run : ∀ {G : Hp} {r : Ro} {m : Mu} {σ : L2.St} {H : Hp} {F : List Y → Mu → Prop} {P : XP} {Q : List V → Hp → Prop}, Rs X.K G σ r → Rh X.K G m H → t r m F P → CvA X.K G F Q → CvX X.K G P (WEx W σ) → SA X es σ H Q

section
variable {X : Cx} {W : WX} {e a b c : Expr} {es : List Expr} {pos : Pos} {t ta tb tc : XE} {tt : XT}

/-! ### names, constants -/
abbrev xVar (i : Nat) : XE := fun r m F _ => ∃ y, r[i]? = some (some y) ∧ F y m
theorem de_var {i : Nat} (h : PE X e (tVar i)) : DE X W e (xVar i) := ⟨fun {G r m σ H F P Q} rs rh hx cv _ => by
  obtain ⟨y, e1, f⟩ := hx
  obtain ⟨w, e2, rv⟩ := rs.get e1
  exact se_of h ⟨w, e2, cv.at rh rv f⟩⟩
abbrev xC (y : Y) : XE := fun _ m F _ => F y m
theorem de_c {v : V} {y : Y} (h : PE X e (tC v)) (rv : ∀ G, RV X.K G v y) : DE X W e (xC y) := ⟨fun {G r m σ H F P Q} rs rh hx cv _ => se_of h (cv.at rh (rv G) hx)⟩
theorem de_int {i : Int} {j : Nat} : DE X W (.Constant (.int i) j pos) (xC (.d (.int i))) := de_c pe_int fun _ => .d (Da.int i)
theorem de_bl {i : Bool} {j : Nat} : DE X W (.Constant (.bool i) j pos) (xC (.d (.bool i))) := de_c pe_bl fun _ => .d (Da.bl i)
theorem de_non {j : Nat} : DE X W (.Constant .none j pos) (xC (.d .none)) := de_c pe_non fun _ => .d Da.non
theorem de_str {x : Str} {j : Nat} : DE X W (.Constant (.str x) j pos) (xC (.d (.str x))) := de_c pe_str fun _ => .d (Da.str x)
/-- a module's constant that is data -/
theorem de_glob {x : Str} {v : V} {u : Value} {y : Y} (hg : Gl X x) (hm : X.mg x = some u) (r : RelV v u) (rv : ∀ G, RV X.K G v y) (hd : (x == ("__debug__" : Str)) = false := by decide) : DE X W (.Name x pos) (xC y) := de_c (pe_glob hg hm r hd) rv

/-! ### arguments -/
abbrev xNil : XA := fun _ m F _ => F [] m
abbrev xCons (ta : XE) (tr : XA) : XA := fun r m F P => ta r m (fun y m1 => tr r m1 (fun ys m2 => F (y :: ys) m2) P) P
theorem da_nil : DA X W [] xNil := ⟨fun {G r m σ H F P Q} rs rh hx cv _ => sa_of pa_nil (cv [] [] G m H (Ex.refl G) rh .nil hx)⟩
theorem da_cons {tr : XA} (ha : DE X W e ta) (hr : DA X W es tr) (hs : starEach (e :: es) X.env = (false, eval e X.env) :: starEach es X.env := by rfl) : DA X W (e :: es) (xCons ta tr) :=
  ⟨fun {G r m σ H F P Q} rs rh hx cv cx => sa_of (pa_cons se_pe sa_pa hs) (ha.run rs rh hx (fun v y G1 m1 H1 e1 rh1 rv1 h1 =>
    hr.run (rs.mono e1) rh1 h1 (fun vs ys G2 m2 H2 e2 rh2 rv2 h2 => cv (v :: vs) (y :: ys) G2 m2 H2 (e1.trans e2) rh2 (.cons (rv1.mono e2) rv2) h2) (cx.mono e1)) cx)⟩

/-! ### displays -/
def allD : List Y → Option (List PyData)
  | [] => some []
  | .d x :: r => (allD r).map (x :: ·)
  | _ :: _ => none
theorem allD_some : ∀ {ys : List Y} {ds : List PyData}, allD ys = some ds → ys = ds.map Y.d
  | [], ds, h => by cases h; rfl
  | .d x :: r, ds, h => by
    cases q : allD r with
    | none => rw [allD, q] at h; cases h
    | some es =>
      rw [allD, q] at h
      cases h
      rw [List.map_cons, ← allD_some q]
  | .l _ :: _, _, h => by cases h
  | .v _ :: _, _, h => by cases h
  | .r _ :: _, _, h => by cases h
theorem allD_map : ∀ ds : List PyData, allD (ds.map Y.d) = some ds
  | [] => rfl
  | d :: ds => by rw [List.map_cons, allD, allD_map ds]; rfl
/-- a new tuple: of data it is data -/
abbrev mkT (ys : List Y) (m : Mu) (F : Y → Mu → Prop) : Prop :=
  match allD ys with
  | some ds => F (.d (.tuple ds)) m
  | none => ∀ p, m p = none → F (.l p) (mu m p (.tup ys))
theorem mkT_ok {K : PySem.W.Frag} {G H : Hp} {m : Mu} {F : Y → Mu → Prop} {Q : VK} {vs : List V} {ys : List Y} {p : Addr} (rh : Rh K G m H) (rv : RVs K G vs ys) (hp : H p = none) (h : mkT ys m F) (cv : CvE K G F Q) : Q (.ref p) (upd H p (.tup vs)) := by
  unfold mkT at h
  cases q : allD ys with
  | some ds =>
    rw [q] at h
    have e := allD_some q
    subst e
    obtain ⟨e1, r1⟩ := rh.data (o := .tup vs) hp
    exact cv _ _ _ m _ e1 r1 (.d (.tup (.inl (.inl upd_same)) ((RVs.das rv).mono e1))) h
  | none =>
    rw [q] at h
    exact cv _ _ G _ _ (Ex.refl G) (rh.new hp (.tup rv)) (.l p) (h p (rh.free hp).2)
abbrev xTup (t : XA) : XE := fun r m F P => t r m (fun ys m1 => ys.length ≤ 10000 ∧ mkT ys m1 F) P
def szl : (10000 : Nat) ≤ sizeLine := by decide
theorem de_tup {x1} {t : XA} (h : DA X W es t) : DE X W (.Tuple es x1 pos) (xTup t) := ⟨fun {G r m σ H F P Q} rs rh hx cv cx =>
  se_of (pe_tup sa_pa) (h.run rs rh hx (fun vs ys G1 m1 H1 e1 rh1 rv1 h1 => ⟨by rw [rv1.length]; exact Nat.le_trans h1.1 szl, fun p hp => mkT_ok rh1 rv1 hp h1.2 (cv.mono e1)⟩) cx)⟩
/-- a new list as data; one that is to change -/
abbrev xLst (t : XA) : XE := fun r m F P => t r m (fun ys m1 => ys.length ≤ 10000 ∧ ∃ ds, ys = ds.map Y.d ∧ F (.d (.list ds)) m1) P
abbrev xLstM (t : XA) : XE := fun r m F P => t r m (fun ys m1 => ys.length ≤ 10000 ∧ ∀ p, m1 p = none → F (.l p) (mu m1 p (.lst ys))) P
theorem lstD_ok {K : PySem.W.Frag} {G H : Hp} {m : Mu} {F : Y → Mu → Prop} {Q : VK} {vs : List V} {ds : List PyData} {p : Addr} (rh : Rh K G m H) (rv : RVs K G vs (ds.map Y.d)) (hp : H p = none) (h : F (.d (.list ds)) m) (cv : CvE K G F Q) : Q (.ref p) (upd H p (.lst vs)) := by
  obtain ⟨e1, r1⟩ := rh.data (o := .lst vs) hp
  exact cv _ _ _ m _ e1 r1 (.d (.lst (.inl upd_same) ((RVs.das rv).mono e1))) h
theorem lstM_ok {K : PySem.W.Frag} {G H : Hp} {m : Mu} {F : Y → Mu → Prop} {Q : VK} {vs : List V} {ys : List Y} {p : Addr} (rh : Rh K G m H) (rv : RVs K G vs ys) (hp : H p = none) (h : ∀ p, m p = none → F (.l p) (mu m p (.lst ys))) (cv : CvE K G F Q) : Q (.ref p) (upd H p (.lst vs)) :=
  cv _ _ G _ _ (Ex.refl G) (rh.new hp (.lst rv)) (.l p) (h p (rh.free hp).2)
theorem de_lst {t : XA} (h : DA X W es t) : DE X W (.List es pos) (xLst t) := ⟨fun {G r m σ H F P Q} rs rh hx cv cx =>
  se_of (pe_lst sa_pa) (h.run rs rh hx (fun vs ys G1 m1 H1 e1 rh1 rv1 h1 => ⟨by rw [rv1.length]; exact Nat.le_trans h1.1 szl, fun p hp => by
    obtain ⟨_, ds, e2, f⟩ := h1
    subst e2
    exact lstD_ok rh1 rv1 hp f (cv.mono e1)⟩) cx)⟩
theorem de_lstM {t : XA} (h : DA X W es t) : DE X W (.List es pos) (xLstM t) := ⟨fun {G r m σ H F P Q} rs rh hx cv cx =>
  se_of (pe_lst sa_pa) (h.run rs rh hx (fun vs ys G1 m1 H1 e1 rh1 rv1 h1 => ⟨by rw [rv1.length]; exact Nat.le_trans h1.1 szl, fun p hp => lstM_ok rh1 rv1 hp h1.2 (cv.mono e1)⟩) cx)⟩

/-! ### two values -/
abbrev XR := Y → Y → Mu → (Y → Mu → Prop) → Prop
def OpD (X : Cx) (f : Value → Value → Sem Value) (xr : XR) : Prop := ∃ r : R2, OpR X f r ∧
  ∀ {G : Hp} {m : Mu} {H : Hp} {v w : V} {y z : Y} {F : Y → Mu → Prop} {Q : VK}, Rh X.K G m H → RV X.K G v y → RV X.K G w z → xr y z m F → CvE X.K G F Q → r v w H Q
abbrev xOp (xr : XR) (ta tb : XE) : XE := fun r m F P => ta r m (fun y m1 => tb r m1 (fun z m2 => xr y z m2 F) P) P
theorem OpD.or {f : Value → Value → Sem Value} {x x' : XR} (h : OpD X f x) (h' : OpD X f x') : OpD X f (fun y z m F => x y z m F ∨ x' y z m F) := by
  obtain ⟨r, h1, h2⟩ := h
  obtain ⟨r', h1', h2'⟩ := h'
  refine ⟨_, h1.or h1', fun {G m H v w y z F Q} rh rv rw hx cv => ?_⟩
  rcases hx with hx | hx
  · exact .inl (h2 rh rv rw hx cv)
  · exact .inr (h2' rh rv rw hx cv)
theorem OpD.imp {f : Value → Value → Sem Value} {x x' : XR} (h : OpD X f x) (i : ∀ y z m F, x' y z m F → x y z m F) : OpD X f x' := by
  obtain ⟨r, h1, h2⟩ := h
  exact ⟨r, h1, fun {G m H v w y z F Q} rh rv rw hx cv => h2 rh rv rw (i y z m F hx) cv⟩
theorem de_op {op : Operator} {xr : XR} (ho : OpD X (binaryOp op) xr) (ha : DE X W a ta) (hb : DE X W b tb) : DE X W (.BinOp a op b pos) (xOp xr ta tb) := ⟨fun {G r m σ H F P Q} rs rh hx cv cx => by
  obtain ⟨r2, h1, h2⟩ := ho
  exact se_of (pe_op h1 se_pe se_pe) (ha.run rs rh hx (fun v y G1 m1 H1 e1 rh1 rv1 q1 =>
    hb.run (rs.mono e1) rh1 q1 (fun w z G2 m2 H2 e2 rh2 rv2 q2 => h2 rh2 (rv1.mono e2) rv2 q2 (cv.mono (e1.trans e2))) (cx.mono e1)) cx)⟩
theorem de_cmp {op : CmpOp} {xr : XR} (ho : OpD X (compareOp op) xr) (ha : DE X W a ta) (hb : DE X W b tb) (hm : behindInMarks op b = false) : DE X W (.Compare a [op] [b] pos) (xOp xr ta tb) := ⟨fun {G r m σ H F P Q} rs rh hx cv cx => by
  obtain ⟨r2, h1, h2⟩ := ho
  exact se_of (pe_cmpR h1 se_pe se_pe hm) (ha.run rs rh hx (fun v y G1 m1 H1 e1 rh1 rv1 q1 =>
    hb.run (rs.mono e1) rh1 q1 (fun w z G2 m2 H2 e2 rh2 rv2 q2 => h2 rh2 (rv1.mono e2) rv2 q2 (cv.mono (e1.trans e2))) (cx.mono e1)) cx)⟩
/-- a value that is a truth value -/
abbrev xB (t : XE) : XT := fun r m F P => t r m (fun y m1 => ∃ k, y = .d (.bool k) ∧ F k m1) P
theorem dt_cmp {op : CmpOp} {xr : XR} (ho : OpD X (compareOp op) xr) (ha : DE X W a ta) (hb : DE X W b tb) (hm : behindInMarks op b = false) : DT X W (.Compare a [op] [b] pos) (xB (xOp xr ta tb)) := ⟨fun {G r m σ H F P Q} rs rh hx cv cx => by
  obtain ⟨r2, h1, h2⟩ := ho
  exact st_of' (pt_cmpR h1 se_pe se_pe hm) (ha.run rs rh hx (fun v y G1 m1 H1 e1 rh1 rv1 q1 =>
    hb.run (rs.mono e1) rh1 q1 (fun w z G2 m2 H2 e2 rh2 rv2 q2 => h2 rh2 (rv1.mono e2) rv2 q2 (fun u x G3 m3 H3 e3 rh3 rv3 ⟨k, ek, f⟩ => by
      subst ek
      cases rv3.da
      exact ⟨k, rfl, cv k G3 m3 H3 ((e1.trans e2).trans e3) rh3 f⟩)) (cx.mono e1)) cx)⟩

/-- whole numbers -/
abbrev xI2 (C : Int → Int → Prop) (g : Int → Int → PyData) : XR := fun y z m F =>
  match y, z with
  | .d (.int i), .d (.int j) => C i j ∧ F (.d (g i j)) m
  | _, _ => False
theorem opd_I {f : Value → Value → Sem Value} {C : Int → Int → Prop} {g : Int → Int → V} {g' : Int → Int → PyData} (h : OpR X f (rI C g)) (hg : ∀ G i j, Da X.K G (g i j) (g' i j)) : OpD X f (xI2 C g') := by
  refine ⟨_, h, fun {G m H v w y z F Q} rh rv rw hx cv => ?_⟩
  unfold xI2 at hx
  split at hx
  · rename_i i j
    cases rv.da; cases rw.da
    exact ⟨i, j, rfl, rfl, hx.1, cv.at rh (.d (hg G i j)) hx.2⟩
  · exact hx.elim
theorem opd_I0 {f : Value → Value → Sem Value} {g : Int → Int → V} {g' : Int → Int → PyData} (h : OpR X f (rI0 g)) (hg : ∀ G i j, Da X.K G (g i j) (g' i j)) : OpD X f (xI2 (fun _ _ => True) g') := by
  refine ⟨_, h, fun {G m H v w y z F Q} rh rv rw hx cv => ?_⟩
  unfold xI2 at hx
  split at hx
  · rename_i i j
    cases rv.da; cases rw.da
    exact ⟨i, j, rfl, rfl, cv.at rh (.d (hg G i j)) hx.2⟩
  · exact hx.elim
end
end Dl
/-! D3: operators, comparisons, subscripts, slices, built-in functions, on data. -/
namespace Dl
open PySem PySem.Spec PyProof.Rows L2 Evl

section
variable {X : Cx} {W : WX} {e a b c : Expr} {es : List Expr} {pos : Pos} {t ta tb tc : XE} {tt : XT} {K : PySem.W.Frag} {G H : Hp} {m : Mu}

/-! ### what a value is, from its data -/
theorem RV.int {w : V} {i : Int} (h : RV K G w (.d (.int i))) : w = .int i := by cases h.da; rfl
theorem RV.bl {w : V} {i : Bool} (h : RV K G w (.d (.bool i))) : w = .bl i := by cases h.da; rfl
theorem RV.str {w : V} {x : Str} (h : RV K G w (.d (.str x))) : w = .str x := by cases h.da; rfl
theorem RV.non {w : V} (h : RV K G w (.d .none)) : w = .non := by cases h.da; rfl
theorem RV.lst {w : V} {ds : List PyData} (h : RV K G w (.d (.list ds))) : ∃ p vs, w = .ref p ∧ Rd G p (.lst vs) ∧ DaAll K G vs ds := by
  cases h.da with
  | lst r q => exact ⟨_, _, rfl, r, q⟩
theorem RV.tup {w : V} {ds : List PyData} (h : RV K G w (.d (.tuple ds))) : ∃ p vs, w = .ref p ∧ SqT K G p vs ∧ DaAll K G vs ds := by
  cases h.da with
  | tup r q => exact ⟨_, _, rfl, r, q⟩
theorem RV.loc {w : V} {p : Addr} (h : RV K G w (.l p)) : w = .ref p := by cases h; rfl
theorem RV.rd {w : V} {ds : List PyData} (h : RV K G w (.r ds)) : ∃ p vs, w = .ref p ∧ SqL K G p vs ∧ DaAll K G vs ds := by
  cases h with
  | r r q => exact ⟨_, _, rfl, r, q⟩
theorem rd_sub {p : Addr} {u : HO} (rh : Rh K G m H) (h : Rd G p u) : Rd H p u := ex_rd rh.sub h
/-- a sequence at p: its items -/
abbrev SqY (m : Mu) : Y → List Y → Prop
  | .d (.list ds), ys => ys = ds.map Y.d
  | .d (.tuple ds), ys => ys = ds.map Y.d
  | .r ds, ys => ys = ds.map Y.d
  | .l p, ys => m p = some (.lst ys) ∨ m p = some (.tup ys)
  | _, _ => False
theorem sqY_ok {w : V} {y : Y} {ys : List Y} (rh : Rh K G m H) (rv : RV K G w y) (h : SqY m y ys) : ∃ p vs, w = .ref p ∧ (SqL K H p vs ∨ SqT K H p vs) ∧ RVs K G vs ys := by
  cases rv with
  | d q =>
    cases q with
    | lst r q => cases h; exact ⟨_, _, rfl, .inl (.inl (rd_sub rh r)), q.rvs⟩
    | tup r q => cases h; exact ⟨_, _, rfl, .inr (ex_t rh.sub r), q.rvs⟩
    | _ => exact h.elim
  | l p =>
    rcases h with h | h
    · obtain ⟨ws, e, q⟩ := rh.lst h
      exact ⟨p, ws, rfl, .inl (SqL.of e), q⟩
    · obtain ⟨ws, e, q⟩ := rh.tup h
      exact ⟨p, ws, rfl, .inr (SqT.of e), q⟩
  | v x => exact h.elim
  | r r q => cases h; exact ⟨_, _, rfl, .inl (ex_l rh.sub r), q.rvs⟩

/-! ### + -/
abbrev xAddT : XR := fun y z m F => ∃ ds es, y = .d (.tuple ds) ∧ z = .d (.tuple es) ∧ ds.length + es.length ≤ 10000 ∧ F (.d (.tuple (ds ++ es))) m
theorem opd_addT : OpD X (binaryOp .Add) xAddT := by
  refine ⟨_, op_catA, fun {G m H v w y z F Q} rh rv rw hx cv => ?_⟩
  obtain ⟨ds, es, rfl, rfl, hz, f⟩ := hx
  obtain ⟨p, vs, rfl, s1, q1⟩ := rv.tup
  obtain ⟨p2, vs2, rfl, s2, q2⟩ := rw.tup
  refine ⟨p, p2, vs, vs2, rfl, rfl, ex_t rh.sub s1, ex_t rh.sub s2, by rw [q1.length, q2.length]; exact Nat.le_trans hz szl, fun e => ?_, fun e1 e2 => ?_, fun e1 e2 q hq => ?_⟩
  · subst e
    cases q1
    exact cv.at rh rw f
  · subst e2
    cases q2
    rw [List.append_nil] at f
    exact cv.at rh rv f
  · obtain ⟨e3, r3⟩ := rh.data (o := .tup (vs ++ vs2)) hq
    exact cv _ _ _ m _ e3 r3 (.d (.tup (.inl (.inl upd_same)) ((q1.app q2).mono e3))) f
/-- list + list, a new list that is data -/
def rCatD : R2 := fun x y H Q => ∃ l b xs zs, x = .ref l ∧ y = .ref b ∧ Rd H l (.lst xs) ∧ Rd H b (.lst zs) ∧ xs.length + zs.length ≤ sizeLine ∧ ∀ p, H p = none → Q (.ref p) (upd H p (.lst (xs ++ zs)))
theorem rd_lst {pins : List (Addr × Obj)} {σ : L2.St} {s : Shared} {l : Addr} {xs : List V} (I : Inv X pins σ H s) (h : Rd H l (.lst xs)) :
    xs.length ≤ sizeLine ∧ ∃ (its : List Value) (n : Nat), Vals xs its ∧ s.heap.get? l = some { cls := .type "list", data := .seq its.toArray n } := h.ok I.hok
theorem opr_catD : OpR X (binaryOp .Add) rCatD := by
  intro pins s σ H x y v u Q I rx ry h
  obtain ⟨l, b, xs, zs, rfl, rfl, hH, hB, hz, q⟩ := h
  cases rx
  cases ry
  obtain ⟨z, its, n, r, e⟩ := rd_lst I hH
  obtain ⟨z2, its2, n2, r2, e2⟩ := rd_lst I hB
  have l1 := r.length
  have l2 := r2.length
  refine PySem.P.add_list e e2 ?_ (by rw [List.size_toArray, List.size_toArray, ← l1, ← l2]; exact hz)
  rw [show its.toArray ++ its2.toArray = (its ++ its2).toArray by simp]
  exact ⟨.ref _, _, I.lnew (t' := s.toks) (r.append r2) (by rw [List.length_append]; exact hz), rfl, q _ I.fresh⟩
/-- the lists' items -/
abbrev LsY (m : Mu) : Y → List Y → Prop
  | .d (.list ds), ys => ys = ds.map Y.d
  | .l p, ys => m p = some (.lst ys)
  | _, _ => False
theorem lsY_ok {w : V} {y : Y} {ys : List Y} (rh : Rh K G m H) (rv : RV K G w y) (h : LsY m y ys) : ∃ p vs, w = .ref p ∧ Rd H p (.lst vs) ∧ RVs K G vs ys := by
  cases rv with
  | d q =>
    cases q with
    | lst r q => cases h; exact ⟨_, _, rfl, rd_sub rh r, q.rvs⟩
    | _ => exact h.elim
  | l p =>
    obtain ⟨ws, e, q⟩ := rh.lst h
    exact ⟨p, ws, rfl, .inl e, q⟩
  | v x => exact h.elim
  | r r q => exact h.elim
abbrev xAddL : XR := fun y z m F => ∃ ys zs ds, LsY m y ys ∧ LsY m z zs ∧ ys.length + zs.length ≤ 10000 ∧ ys ++ zs = ds.map Y.d ∧ F (.d (.list ds)) m
theorem opd_addL : OpD X (binaryOp .Add) xAddL := by
  refine ⟨_, opr_catD, fun {G m H v w y z F Q} rh rv rw hx cv => ?_⟩
  obtain ⟨ys, zs, ds, h1, h2, hz, ee, f⟩ := hx
  obtain ⟨p, vs, rfl, s1, q1⟩ := lsY_ok rh rv h1
  obtain ⟨p2, vs2, rfl, s2, q2⟩ := lsY_ok rh rw h2
  refine ⟨p, p2, vs, vs2, rfl, rfl, s1, s2, by rw [q1.length, q2.length]; exact Nat.le_trans hz szl, fun q hq => ?_⟩
  have q3 := q1.app q2
  rw [ee] at q3
  exact lstD_ok rh q3 hq f cv
abbrev xAddS : XR := fun y z m F => ∃ i j, y = .d (.str i) ∧ z = .d (.str j) ∧ i.length + j.length ≤ 10000 ∧ F (.d (.str (i ++ j))) m
theorem opd_addS : OpD X (binaryOp .Add) xAddS := by
  refine ⟨_, op_add_str, fun {G m H v w y z F Q} rh rv rw hx cv => ?_⟩
  obtain ⟨i, j, rfl, rfl, hz, f⟩ := hx
  cases rv.str; cases rw.str
  exact ⟨i, j, rfl, rfl, Nat.le_trans hz szl, cv.at rh (.d (.str _)) f⟩
abbrev xAdd : XR := fun y z m F =>
  match y, z with
  | .d (.int i), .d (.int j) => F (.d (.int (i + j))) m
  | .d (.tuple a), .d (.tuple b) => a.length + b.length ≤ 10000 ∧ F (.d (.tuple (a ++ b))) m
  | .d (.str a), .d (.str b) => a.length + b.length ≤ 10000 ∧ F (.d (.str (a ++ b))) m
  | y, z => ∃ ys zs ds, LsY m y ys ∧ LsY m z zs ∧ ys.length + zs.length ≤ 10000 ∧ ys ++ zs = ds.map Y.d ∧ F (.d (.list ds)) m
theorem opd_add : OpD X (binaryOp .Add) xAdd := by
  refine ((((opd_I0 op_add fun _ _ _ => Da.int _).or opd_addT).or opd_addS).or opd_addL).imp fun y z m F h => ?_
  unfold xAdd at h
  split at h
  · exact .inl (.inl (.inl ⟨trivial, h⟩))
  · exact .inl (.inl (.inr ⟨_, _, rfl, rfl, h.1, h.2⟩))
  · exact .inl (.inr ⟨_, _, rfl, rfl, h.1, h.2⟩)
  · exact .inr h
abbrev xSub : XR := fun y z m F => match y, z with
  | .d (.int i), .d (.int j) => F (.d (.int (i - j))) m
  | _, _ => False
theorem opd_sub : OpD X (binaryOp .Sub) xSub := (opd_I0 op_sub fun _ _ _ => Da.int _).imp fun y z m F h => by
  unfold xSub at h; split at h
  · exact ⟨trivial, h⟩
  · exact h.elim
abbrev xMul : XR := fun y z m F => match y, z with
  | .d (.int i), .d (.int j) => CMul i j ∧ F (.d (.int (i * j))) m
  | _, _ => False
theorem opd_mul : OpD X (binaryOp .Mult) xMul := (opd_I op_mul fun _ _ _ => Da.int _).imp fun y z m F h => by
  unfold xMul at h; split at h
  · exact h
  · exact h.elim
abbrev xFdiv : XR := fun y z m F => match y, z with
  | .d (.int i), .d (.int j) => (0 < j ∧ j < 1073741824) ∧ F (.d (.int (i / j))) m
  | _, _ => False
theorem opd_fdiv : OpD X (binaryOp .FloorDiv) xFdiv := (opd_I op_fdiv fun _ _ _ => Da.int _).imp fun y z m F h => by
  unfold xFdiv at h; split at h
  · exact h
  · exact h.elim
abbrev xMod : XR := fun y z m F => match y, z with
  | .d (.int i), .d (.int j) => 0 < j ∧ F (.d (.int (i % j))) m
  | _, _ => False
theorem opd_mod : OpD X (binaryOp .Mod) xMod := (opd_I op_mod fun _ _ _ => Da.int _).imp fun y z m F h => by
  unfold xMod at h; split at h
  · exact h
  · exact h.elim
abbrev xPow : XR := fun y z m F => match y, z with
  | .d (.int i), .d (.int j) => CPow i j ∧ F (.d (.int (i ^ j.toNat))) m
  | _, _ => False
theorem opd_pow : OpD X (binaryOp .Pow) xPow := (opd_I op_pow fun _ _ _ => Da.int _).imp fun y z m F h => by
  unfold xPow at h; split at h
  · exact h
  · exact h.elim

/-! ### comparisons -/
abbrev xCi (p : Int → Int → Bool) : XR := fun y z m F => match y, z with
  | .d (.int i), .d (.int j) => F (.d (.bool (p i j))) m
  | _, _ => False
theorem xci_imp {p : Int → Int → Bool} {y z : Y} {m : Mu} {F : Y → Mu → Prop} (h : xCi p y z m F) : xI2 (fun _ _ => True) (fun i j => .bool (p i j)) y z m F := by
  unfold xCi at h; split at h
  · exact ⟨trivial, h⟩
  · exact h.elim
theorem opd_lt : OpD X (compareOp .Lt) (xCi fun i j => decide (i < j)) := (opd_I0 op_lt fun _ _ _ => Da.bl _).imp fun _ _ _ _ h => xci_imp h
theorem opd_le : OpD X (compareOp .LtE) (xCi fun i j => decide (i ≤ j)) := (opd_I0 op_le fun _ _ _ => Da.bl _).imp fun _ _ _ _ h => xci_imp h
theorem opd_gt : OpD X (compareOp .Gt) (xCi fun i j => decide (j < i)) := (opd_I0 op_gt fun _ _ _ => Da.bl _).imp fun _ _ _ _ h => xci_imp h
theorem opd_ge : OpD X (compareOp .GtE) (xCi fun i j => decide (j ≤ i)) := (opd_I0 op_ge fun _ _ _ => Da.bl _).imp fun _ _ _ _ h => xci_imp h
/-- == of plain values -/
def sEq : PyData → PyData → Option Bool
  | .none, .none => some true | .none, .int _ => some false | .int _, .none => some false | .none, .bool _ => some false | .bool _, .none => some false | .none, .str _ => some false | .str _, .none => some false
  | .int i, .int j => some (decide (i = j)) | .bool i, .bool j => some (decide (i = j)) | .str i, .str j => some (decide (i = j))
  | .int _, .str _ => some false | .str _, .int _ => some false | .bool _, .str _ => some false | .str _, .bool _ => some false
  | _, _ => none
theorem sEq_ok {d d' : PyData} {k : Bool} {v w : V} (h : sEq d d' = some k) (hv : Da K G v d) (hw : Da K G w d') : scal v w = true ∧ decide (v = w) = k := by
  unfold sEq at h
  split at h <;> first
    | (cases h; cases hv; cases hw; exact ⟨rfl, by simp⟩)
    | cases h
mutual
theorem Da.dp : ∀ {v : V} {d : PyData}, d.canLay0 = true → Da K H v d → Dp K H v d
  | _, _, _, .non => .non
  | _, _, _, .bl b => .bl b
  | _, _, _, .int i => .int i
  | _, _, _, .str x => .str x
  | _, _, h, .lst r q => .lst (.inl r) (DaAll.dp (by simpa [PyData.canLay0] using h) q)
  | _, _, h, .tup r q => .tup r (DaAll.dp (by simpa [PyData.canLay0] using h) q)
  | _, _, h, .dic _ _ _ _ => by simp [PyData.canLay0] at h
theorem DaAll.dp : ∀ {vs : List V} {ds : List PyData}, PyData.canLayAll0 ds = true → DaAll K H vs ds → DpAll K H vs ds
  | _, _, _, .nil => .nil
  | _, _, h, .cons q t => by
    simp [PyData.canLayAll0] at h
    exact .cons (Da.dp h.1 q) (DaAll.dp h.2 t)
end
abbrev xEq : XR := fun y z m F => match y, z with
  | .d a, .d b => (match sEq a b with
    | some k => F (.d (.bool k)) m
    | none => SeqAt.shaped a = true ∧ SeqAt.shaped b = true ∧ F (.d (.bool (PyData.eqv a b))) m)
  | _, _ => False
abbrev xNe : XR := fun y z m F => match y, z with
  | .d a, .d b => (match sEq a b with
    | some k => F (.d (.bool !k)) m
    | none => SeqAt.shaped a = true ∧ SeqAt.shaped b = true ∧ F (.d (.bool !(PyData.eqv a b))) m)
  | _, _ => False
theorem shaped_lay {d : PyData} (h : SeqAt.shaped d = true) : d.canLay0 = true := by
  unfold SeqAt.shaped at h
  simp at h
  exact h.1
theorem opd_eq (hu : X.A.units + 64 < cLine) : OpD X (compareOp .Eq) xEq := by
  refine ⟨_, op_eq.or (op_eqD hu), fun {G m H v w y z F Q} rh rv rw hx cv => ?_⟩
  unfold xEq at hx
  split at hx
  · rename_i d d'
    cases q : sEq d d' with
    | some k =>
      rw [q] at hx
      obtain ⟨h1, h2⟩ := sEq_ok q rv.da rw.da
      exact .inl ⟨h1, by rw [h2]; exact cv.at rh (.d (.bl k)) hx⟩
    | none =>
      rw [q] at hx
      obtain ⟨h1, h2, h3⟩ := hx
      exact .inr ⟨d, d', (rv.da.mono rh.sub).dp (shaped_lay h1), (rw.da.mono rh.sub).dp (shaped_lay h2), h1, h2, cv.at rh (.d (.bl _)) h3⟩
  · exact hx.elim
theorem opd_ne (hu : X.A.units + 64 < cLine) : OpD X (compareOp .NotEq) xNe := by
  refine ⟨_, op_ne.or (op_neD hu), fun {G m H v w y z F Q} rh rv rw hx cv => ?_⟩
  unfold xNe at hx
  split at hx
  · rename_i d d'
    cases q : sEq d d' with
    | some k =>
      rw [q] at hx
      obtain ⟨h1, h2⟩ := sEq_ok q rv.da rw.da
      exact .inl ⟨h1, by rw [h2]; exact cv.at rh (.d (.bl _)) hx⟩
    | none =>
      rw [q] at hx
      obtain ⟨h1, h2, h3⟩ := hx
      exact .inr ⟨d, d', (rv.da.mono rh.sub).dp (shaped_lay h1), (rw.da.mono rh.sub).dp (shaped_lay h2), h1, h2, cv.at rh (.d (.bl _)) h3⟩
  · exact hx.elim
/-- is None -/
def isN : Y → Bool
  | .d .none => true
  | .v .non => true
  | _ => false
theorem isN_ok {v : V} {y : Y} (rv : RV K G v y) : decide (v = .non) = isN y := by
  cases rv with
  | d q => cases q <;> rfl
  | l p => rfl
  | v => cases v <;> rfl
  | r _ _ => rfl
abbrev xIsN : XR := fun y z m F => z = .d .none ∧ F (.d (.bool (isN y))) m
abbrev xNotN : XR := fun y z m F => z = .d .none ∧ F (.d (.bool !(isN y))) m
theorem opd_isN : OpD X (compareOp .Is) xIsN := ⟨_, op_isN, fun {G m H v w y z F Q} rh rv rw hx cv => by
  obtain ⟨rfl, f⟩ := hx
  exact ⟨rw.non, by rw [isN_ok rv]; exact cv.at rh (.d (.bl _)) f⟩⟩
theorem opd_notN : OpD X (compareOp .IsNot) xNotN := ⟨_, op_notN, fun {G m H v w y z F Q} rh rv rw hx cv => by
  obtain ⟨rfl, f⟩ := hx
  exact ⟨rw.non, by rw [isN_ok rv]; exact cv.at rh (.d (.bl _)) f⟩⟩
/-- x is True -/
abbrev xIsB : XR := fun y z m F => ∃ i j, y = .d (.bool i) ∧ z = .d (.bool j) ∧ F (.d (.bool (decide (i = j)))) m
theorem opd_isB : OpD X (compareOp .Is) xIsB := ⟨_, op_isBl, fun {G m H v w y z F Q} rh rv rw hx cv => by
  obtain ⟨i, j, rfl, rfl, f⟩ := hx
  exact ⟨i, j, rv.bl, rw.bl, cv.at rh (.d (.bl _)) f⟩⟩
abbrev xNotB : XR := fun y z m F => ∃ i j, y = .d (.bool i) ∧ z = .d (.bool j) ∧ F (.d (.bool !(decide (i = j)))) m
theorem opd_notB : OpD X (compareOp .IsNot) xNotB := ⟨_, op_notBl, fun {G m H v w y z F Q} rh rv rw hx cv => by
  obtain ⟨i, j, rfl, rfl, f⟩ := hx
  exact ⟨i, j, rv.bl, rw.bl, cv.at rh (.d (.bl _)) f⟩⟩

/-! ### in -/
def flatD : PyData → Bool
  | .none | .bool _ | .int _ | .str _ => true
  | _ => false
def toV : PyData → V
  | .none => .non | .bool b => .bl b | .int i => .int i | .str x => .str x | _ => .non
theorem toV_ok {d : PyData} {v : V} (f : flatD d = true) (h : Da K G v d) : v = toV d := by
  cases h <;> first | rfl | cases f
theorem flat_ok {d : PyData} {v : V} (f : flatD d = true) (h : Da K G v d) : flatV v = true := by
  cases h <;> first | rfl | cases f
theorem flat_all : ∀ {ds : List PyData} {vs : List V}, ds.all flatD = true → DaAll K G vs ds → vs.all flatV = true ∧ vs = ds.map toV
  | _, _, _, .nil => ⟨rfl, rfl⟩
  | _, _, f, .cons h t => by
    rw [List.all_cons, Bool.and_eq_true] at f
    obtain ⟨h1, h2⟩ := flat_all f.2 t
    exact ⟨by rw [List.all_cons, flat_ok f.1 h, h1]; rfl, by rw [List.map_cons, toV_ok f.1 h, h2]⟩
def inD (d : PyData) (ds : List PyData) : Bool := inV (toV d) (ds.map toV)
abbrev xIn (neg : Bool) : XR := fun y z m F => ∃ d ds, y = .d d ∧ SqY m z (ds.map Y.d) ∧ flatD d = true ∧ ds.all flatD = true ∧ F (.d (.bool (if neg then !inD d ds else inD d ds))) m
theorem xin_ok {neg : Bool} {v w : V} {y z : Y} {F : Y → Mu → Prop} {Q : VK} (rh : Rh K G m H) (rv : RV K G v y) (rw : RV K G w z) (hx : xIn neg y z m F) (cv : CvE K G F Q) : rIn K neg v w H Q := by
  obtain ⟨d, ds, rfl, h1, h2, h3, f⟩ := hx
  obtain ⟨p, vs, rfl, s1, q1⟩ := sqY_ok rh rw h1
  obtain ⟨e1, e2⟩ := flat_all h3 (RVs.das q1)
  refine ⟨p, vs, rfl, s1, flat_ok h2 rv.da, e1, ?_⟩
  rw [toV_ok h2 rv.da, e2]
  exact cv.at rh (.d (.bl _)) f
theorem opd_in : OpD X (compareOp .In) (xIn false) := ⟨_, op_in_seq, fun rh rv rw hx cv => xin_ok rh rv rw hx cv⟩
theorem opd_notin : OpD X (compareOp .NotIn) (xIn true) := ⟨_, op_notIn_seq, fun rh rv rw hx cv => xin_ok rh rv rw hx cv⟩

/-! ### subscripts -/
theorem atI_rvs {vs : List V} {ys : List Y} {i : Int} {y : Y} (q : RVs K G vs ys) (h : atI ys i = some y) : ∃ v, atI vs i = some v ∧ RV K G v y := by
  unfold atI at h ⊢
  rw [q.length]
  cases e : ixN ys.length i with
  | none => rw [e] at h; cases h
  | some j =>
    rw [e] at h
    exact RVs.get q h
abbrev xIx : XR := fun y z m F => ∃ i ys x, z = .d (.int i) ∧ SqY m y ys ∧ atI ys i = some x ∧ F x m
theorem ixr : IxR X (fun x y H Q => rIxL X.K x y H Q ∨ rIxT X.K x y H Q) := ix_list.or ix_tup
theorem de_ix (ha : DE X W a ta) (hb : DE X W b tb) (hs : PlainIx b) : DE X W (.Subscript a b pos) (xOp xIx ta tb) := ⟨fun {G r m σ H F P Q} rs rh hx cv cx =>
  se_of (pe_ix ixr se_pe se_pe hs) (ha.run rs rh hx (fun v y G1 m1 H1 e1 rh1 rv1 q1 =>
    hb.run (rs.mono e1) rh1 q1 (fun w z G2 m2 H2 e2 rh2 rv2 q2 => by
      obtain ⟨i, ys, x, rfl, hs2, hat, f⟩ := q2
      obtain ⟨p, vs, rfl, s1, q1⟩ := sqY_ok rh2 (rv1.mono e2) hs2
      obtain ⟨u, hu, ru⟩ := atI_rvs q1 hat
      rcases s1 with s1 | s1
      · exact .inl ⟨p, vs, i, u, rfl, rv2.int, s1, hu, cv u x G2 m2 H2 (e1.trans e2) rh2 ru f⟩
      · exact .inr ⟨p, vs, i, u, rfl, rv2.int, s1, hu, cv u x G2 m2 H2 (e1.trans e2) rh2 ru f⟩) (cx.mono e1)) cx)⟩

/-! ### slices -/
abbrev XO := Ro → Mu → (Option Int → Mu → Prop) → XP → Prop
def SO (X : Cx) (o : Option Expr) : TO := fun σ H Q => ∀ (pins : List (Addr × Obj)) (s : Shared), Inv X pins σ H s → wpAny (model X.prog X.w) X.A (evalPart o X.env) (fun u s' => ∃ o H', Inv X pins σ H' s' ∧ IsPart u o ∧ Q o H') X.xe s
theorem so_po {o : Option Expr} : PO X o (SO X o) := ⟨fun pins s _ _ _ I h => h pins s I⟩
def CvO (K : PySem.W.Frag) (G : Hp) (F : Option Int → Mu → Prop) (Q : Option Int → Hp → Prop) : Prop := ∀ b G' m' H', Ex G G' → Rh K G' m' H' → F b m' → Q b H'
structure DO (X : Cx) (W : WX) (o : Option Expr) (t : XO) : Prop where
  run : ∀ {G : Hp} {r : Ro} {m : Mu} {σ : L2.St} {H : Hp} {F : Option Int → Mu → Prop} {P : XP} {Q : Option Int → Hp → Prop}, Rs X.K G σ r → Rh X.K G m H → t r m F P → CvO X.K G F Q → CvX X.K G P (WEx W σ) → SO X o σ H Q
abbrev xoN : XO := fun _ m F _ => F none m
abbrev xoS (t : XE) : XO := fun r m F P => t r m (fun y m1 => ∃ i, y = .d (.int i) ∧ F (some i) m1) P
theorem do_none : DO X W none xoN := ⟨fun {G r m σ H F P Q} rs rh hx cv _ => fun pins s I => po_none.run pins s σ H Q I (cv none G m H (Ex.refl G) rh hx)⟩
theorem do_some (h : DE X W e t) : DO X W (some e) (xoS t) := ⟨fun {G r m σ H F P Q} rs rh hx cv cx => fun pins s I => (po_some se_pe).run pins s σ H Q I (h.run rs rh hx (fun v y G1 m1 H1 e1 rh1 rv1 q1 => by
  obtain ⟨i, rfl, f⟩ := q1
  exact ⟨i, rv1.int, cv (some i) G1 m1 H1 e1 rh1 f⟩) cx)⟩
def cutD {α : Type} (xs : List α) (lo hi : Option Int) : List α := (xs.drop (HT.sIx xs.length 0 lo)).take (HT.sIx xs.length xs.length hi - HT.sIx xs.length 0 lo)
theorem cut_rvs {vs : List V} {ys : List Y} (q : RVs K G vs ys) (lo hi : Option Int) : RVs K G (cutV vs lo hi) (cutD ys lo hi) := by
  unfold cutV cutD
  rw [q.length]
  exact RVs.take _ (RVs.drop _ q)
theorem cut_map {α β : Type} (f : α → β) (xs : List α) (lo hi : Option Int) : cutD (xs.map f) lo hi = (cutD xs lo hi).map f := by
  unfold cutD
  rw [List.length_map, ← List.map_drop, ← List.map_take]
abbrev XSR := Y → Option Int → Option Int → Mu → (Y → Mu → Prop) → Prop
def SlD (X : Cx) (xr : XSR) : Prop := ∃ r, SlR X r ∧ ∀ {G : Hp} {m : Mu} {H : Hp} {v : V} {y : Y} {lo hi : Option Int} {F : Y → Mu → Prop} {Q : VK}, Rh X.K G m H → RV X.K G v y → xr y lo hi m F → CvE X.K G F Q → r v lo hi H Q
abbrev xSl (xr : XSR) (te : XE) (tl th : XO) : XE := fun r m F P => te r m (fun y m1 => tl r m1 (fun lo m2 => th r m2 (fun hi m3 => xr y lo hi m3 F) P) P) P
theorem de_sl {lo hi : Option Expr} {tl th : XO} {p2 : Pos} {xr : XSR} (hr : SlD X xr) (he : DE X W e t) (hl : DO X W lo tl) (hh : DO X W hi th) : DE X W (.Subscript e (.Slice lo hi none p2) pos) (xSl xr t tl th) := ⟨fun {G r m σ H F P Q} rs rh hx cv cx => by
  obtain ⟨r2, h1, h2⟩ := hr
  exact se_of (pe_slice h1 se_pe so_po so_po) (he.run rs rh hx (fun v y G1 m1 H1 e1 rh1 rv1 q1 =>
    hl.run (rs.mono e1) rh1 q1 (fun a G2 m2 H2 e2 rh2 q2 =>
      hh.run (rs.mono (e1.trans e2)) rh2 q2 (fun b G3 m3 H3 e3 rh3 q3 => h2 rh3 (rv1.mono (e2.trans e3)) q3 (cv.mono ((e1.trans e2).trans e3))) (cx.mono (e1.trans e2))) (cx.mono e1)) cx)⟩
/-- t[a:b] of a tuple that is data -/
abbrev xSlT : XSR := fun y lo hi m F => ∃ ds, y = .d (.tuple ds) ∧ F (.d (.tuple (cutD ds lo hi))) m
/-- xs[a:b]: a new list, as data, or one that may change -/
abbrev xSlL : XSR := fun y lo hi m F => ∃ ys ds, ((∃ es, y = .d (.list es) ∧ ys = es.map Y.d) ∨ (∃ p, y = .l p ∧ m p = some (.lst ys)) ∨ ∃ es, y = .r es ∧ ys = es.map Y.d) ∧ cutD ys lo hi = ds.map Y.d ∧ F (.d (.list ds)) m
theorem sld_L : SlD X xSlL := ⟨_, sl_list, fun {G m H v y lo hi F Q} rh rv hx cv => by
  obtain ⟨ys, ds, hy, ec, f⟩ := hx
  have z : ∃ p vs, v = .ref p ∧ SqL X.K H p vs ∧ RVs X.K G vs ys := by
    rcases hy with ⟨es, rfl, rfl⟩ | ⟨p, rfl, hm⟩ | ⟨es, rfl, rfl⟩
    · obtain ⟨p, vs, rfl, s1, q1⟩ := rv.lst
      exact ⟨p, vs, rfl, .inl (rd_sub rh s1), q1.rvs⟩
    · obtain ⟨ws, e, q⟩ := rh.lst hm
      cases rv.loc
      exact ⟨p, ws, rfl, SqL.of e, q⟩
    · obtain ⟨p, vs, rfl, s1, q1⟩ := rv.rd
      exact ⟨p, vs, rfl, ex_l rh.sub s1, q1.rvs⟩
  obtain ⟨p, vs, rfl, s1, q1⟩ := z
  refine ⟨p, vs, rfl, s1, fun q hq => ?_⟩
  have q3 := cut_rvs q1 lo hi
  rw [ec] at q3
  exact lstD_ok rh q3 hq f cv⟩
end
end Dl
namespace Dl
open PySem PySem.Spec PyProof.Rows L2 Evl
section
variable {X : Cx} {K : PySem.W.Frag} {G H : Hp} {m : Mu}
theorem sld_T : SlD X xSlT := ⟨_, sl_tupA, fun {G m H v y lo hi F Q} rh rv hx cv => by
  obtain ⟨ds, rfl, f⟩ := hx
  obtain ⟨p, vs, rfl, s1, q1⟩ := rv.tup
  refine ⟨p, vs, rfl, ex_t rh.sub s1, fun hw => ?_, fun _ q hq => ?_⟩
  · have e : cutD ds lo hi = ds := by
      unfold cutD
      rw [← q1.length, hw.1, hw.2]
      simp [q1.length]
    rw [e] at f
    exact cv.at rh rv f
  · obtain ⟨e3, r3⟩ := rh.data (o := .tup (cutV vs lo hi)) hq
    have q3 := RVs.das (show RVs X.K G (cutV vs lo hi) ((cutD ds lo hi).map Y.d) by rw [← cut_map]; exact cut_rvs q1.rvs lo hi)
    exact cv _ _ _ m _ e3 r3 (.d (.tup (.inl (.inl upd_same)) (q3.mono e3))) f⟩
end
end Dl
/-! D4: what a def promises on data; its calls. -/
namespace Dl
open PySem PySem.Spec PyProof.Rows L2 Evl

abbrev DSp := List Y → Mu → (Y → Mu → Prop) → XP → Prop
/-- the promise for the hand layer's values -/
def cz (K : PySem.W.Frag) (d : DSp) (vs : List V) (H : Hp) (Q : VK) (E : XK) : Prop :=
  ∃ (G : Hp) (m : Mu) (ys : List Y) (F : Y → Mu → Prop) (P : XP), Rh K G m H ∧ RVs K G vs ys ∧ d ys m F P ∧ CvE K G F Q ∧ CvX K G P E
/-- the def at f keeps the promise d, called where no repr is under way -/
structure FnD (pr : Program) (w : World) (K : PySem.W.Frag) (mg : Str → Option Value) (base : Heap) (k : Nat) (f : Addr) (fd : FuncData) (ps : List Str) (d : DSp) : Prop where
  len : ∀ ys m F P, d ys m F P → ys.length = ps.length
  run : ∀ (A : Around) (outer : List Env) (s : Shared) (H : Hp) (args : Args) (us : List Value) (vs : List V) (Q : VK) (E : XK), A.guards = some [] → Room k A → Env0 pr w K mg base A outer s H →
    BindsTo s fd args (ps.zip us) → Vals vs us → cz K d vs H Q E → codeAny (model pr w) A (.call (.ref f) args) (CR (L2.CX pr w) outer pr w H s Q E) s
section
variable {pr : Program} {w : World} {K : PySem.W.Frag} {mg : Str → Option Value} {base : Heap} {f : Addr} {fd : FuncData} {ps : List Str} {d d' : DSp} {j k : Nat}
theorem FnD.mono (F : FnD pr w K mg base j f fd ps d) (h : j ≤ k) : FnD pr w K mg base k f fd ps d :=
  ⟨F.len, fun A outer s H args us vs Q E hg hr => F.run A outer s H args us vs Q E hg (hr.mono h)⟩
theorem FnD.imp (F : FnD pr w K mg base k f fd ps d) (h : ∀ ys m F P, d' ys m F P → d ys m F P) : FnD pr w K mg base k f fd ps d' :=
  ⟨fun ys m F' P q => F.len ys m F' P (h _ _ _ _ q), fun A outer s H args us vs Q E hg hr he hb hv ⟨G, m, ys, F', P, a, b, c, e⟩ => F.run A outer s H args us vs Q E hg hr he hb hv ⟨G, m, ys, F', P, a, b, h _ _ _ _ c, e⟩⟩
end

section
variable {X : Cx} {W : WX} {k : Nat} {f C : Addr} {fd : FuncData} {ps : List Str} {d : DSp} {dvs : List V} {ds : List Value} {dys : List Y} {x mn : Str} {p pos apos : Pos} {e o : Expr} {es : List Expr} {ta : XE} {t : XA}
theorem run_d {pins : List (Addr × Obj)} {σ : L2.St} {H : Hp} {s : Shared} {Q : VK} {us : List Value} {vs : List V} (F : FnD X.prog X.w X.K X.mg X.base k f fd ps d) (hr : Room k X.A) (hg : X.A.guards = some []) (hb : Binds X.K fd ps ds) (hd : Vals dvs ds)
    (tk : Takes X W) (I : Inv X pins σ H s) (r : Vals vs us) (h : cz X.K d (vs ++ dvs) H Q (WEx W σ)) : wpAny (model X.prog X.w) X.A (call (.ref f) us) (EP X pins σ Q) X.xe s := by
  have rr : Vals (vs ++ dvs) (us ++ ds) := r.append hd
  have hl : (us ++ ds).length = ps.length := by
    obtain ⟨G, m, ys, F', P, _, q2, q3, _⟩ := id h
    rw [← rr.length, q2.length]
    exact F.len _ _ _ _ q3
  refine wpAny_call (codeAny_mono (F.run X.A X.stack s H ⟨us, []⟩ (us ++ ds) (vs ++ dvs) Q (WEx W σ) hg hr I.env0 (hb s us I.kIn hl) rr h) fun z s' hq => ?_)
  match z, hq with
  | .error e, hq => exact passAt tk σ pins H s e s' I hq
  | .ok (.ret u), hq => exact I.after hq
  | .ok .next, hq => exact False.elim hq
  | .ok .brk, hq => exact False.elim hq
  | .ok .cont, hq => exact False.elim hq

/-- f(..): the written arguments, then the defaults -/
abbrev xCall (d : DSp) (dys : List Y) (t : XA) : XE := fun r m F P => t r m (fun ys m1 => d (ys ++ dys) m1 F P) P
theorem de_call (F : FnD X.prog X.w X.K X.mg X.base k f fd ps d) (hr : Room k X.A) (hgd : X.A.guards = some []) (tk : Takes X W) (hg : Gl X x) (hm : X.mg x = some (.ref f)) (hk : PySem.W.keepIn X.K (.ref f) = true) (hb : Binds X.K fd ps ds) (hd : Vals dvs ds)
    (hy : ∀ G, RVs X.K G dvs dys) (ha : DA X W (e :: es) t) (hdb : (x == ("__debug__" : Str)) = false := by decide) (he : starEach (e :: es) X.env = (false, eval e X.env) :: starEach es X.env := by rfl)
    (hpl : (backTo pos (starEach es X.env)).any (·.1) = false := by rfl) : DE X W (.Call (.Name x p) (e :: es) [] pos) (xCall d dys t) := ⟨fun {G r m σ H F' P Q} rs rh hx cv cx => fun pins s I => by
  refine wpAny_Call_Name_kw (ld_glob I hg hm ?_ hdb)
  have ha' := ha.run (Q := fun vs H1 => cz X.K d (vs ++ dvs) H1 Q (WEx W σ)) rs rh hx (fun vs ys G1 m1 H1 e1 rh1 rv1 q1 => ⟨G1, m1, ys ++ dys, F', P, rh1, rv1.app (hy G1), q1, cv.mono e1, cx.mono e1⟩) cx
  exact PySem.W.callWith_K (h₀ := X.base) I.ok.mod.kin hk (thn (ha' pos pins s I) fun us s1 ⟨vs, H1, I1, r1, q⟩ => ⟨I1.kIn, run_d F hr hgd hb hd tk I1 r1 q⟩) he hpl⟩
theorem de_call0 (F : FnD X.prog X.w X.K X.mg X.base k f fd ps d) (hr : Room k X.A) (hgd : X.A.guards = some []) (tk : Takes X W) (hg : Gl X x) (hm : X.mg x = some (.ref f)) (hk : PySem.W.keepIn X.K (.ref f) = true) (hb : Binds X.K fd ps ds) (hd : Vals dvs ds)
    (hy : ∀ G, RVs X.K G dvs dys) (hdb : (x == ("__debug__" : Str)) = false := by decide) : DE X W (.Call (.Name x p) [] [] pos) (xCall d dys xNil) := ⟨fun {G r m σ H F' P Q} rs rh hx cv cx => fun pins s I => by
  refine wpAny_Call_Name_kw (ld_glob I hg hm ?_ hdb)
  exact PySem.W.callWith_K0 I.kIn hk (run_d (us := []) F hr hgd hb hd tk I .nil ⟨G, m, dys, F', P, rh, hy G, hx, cv, cx⟩)⟩

/-- o.m(..) of an instance of the class at C -/
abbrev xMeth (C : Addr) (mn : Str) (d : DSp) (dys : List Y) (ta : XE) (t : XA) : XE := fun r m F P => ta r m (fun y m1 => ∃ a dx gs, y = .l a ∧ m1 a = some (.ins C dx gs) ∧ gs.lookup mn = none ∧ t r m1 (fun ys m2 => d (.l a :: (ys ++ dys)) m2 F P) P) P
theorem de_meth {pl : Sem Bool} (he : DE X W o ta) (c : Cls X.K C) (hm : Meth X.K C mn f) (F : FnD X.prog X.w X.K X.mg X.base k f fd ps d) (hr : Room k X.A) (hgd : X.A.guards = some []) (tk : Takes X W) (hb : Binds X.K fd ps ds) (hd : Vals dvs ds)
    (hy : ∀ G, RVs X.K G dvs dys) (ha : DA X W (e :: es) t) (hst : starEach (e :: es) X.env = (false, eval e X.env) :: starEach es X.env := by rfl) (hpl : (backTo pos (starEach es X.env)).any (·.1) = false := by rfl)
    (ht : eval (.Call (.Attribute o mn apos) (e :: es) [] pos) X.env = (eval o X.env >>= fun ov => standAt apos.atName >>= fun _ => holding [ov] (getMethod ov mn pl) >>= fun z =>
      callWith pos z.1 z.2 (backTo pos (starEach (e :: es) X.env)) (backToKw pos (keywordEach [] X.env))) := by rfl) :
    DE X W (.Call (.Attribute o mn apos) (e :: es) [] pos) (xMeth C mn d dys ta t) := ⟨fun {G r m σ H F' P Q} rs rh hx cv cx => fun pins s I => by
  have he' := he.run (Q := fun v H1 => ∃ a dx fs, v = V.ref a ∧ H1 a = some (.ins C dx fs) ∧ fs.lookup mn = none ∧ SA X (e :: es) σ H1 fun vs H2 => cz X.K d (.ref a :: (vs ++ dvs)) H2 Q (WEx W σ)) rs rh hx (fun v y G1 m1 H1 e1 rh1 rv1 q1 => by
    obtain ⟨a, dx, gs, rfl, hma, hl, q⟩ := q1
    obtain ⟨fs, hH, hf⟩ := rh1.ins hma
    cases rv1.loc
    exact ⟨a, dx, fs, rfl, hH, RF.lookup_none hf hl, ha.run (rs.mono e1) rh1 q (fun vs ys G2 m2 H2 e2 rh2 rv2 q2 => ⟨G2, m2, .l a :: (ys ++ dys), F', P, rh2, .cons (.l a) (rv2.app (hy G2)), q2, cv.mono (e1.trans e2), cx.mono (e1.trans e2)⟩) (cx.mono e1)⟩) cx
  refine PySem.W.methodCall_KW (pl := pl) (thn (he' pins s I) fun u s1 ⟨v, H1, I1, rx, a, dx, fs, ex, ea, l, q⟩ => ?_) ht
  subst ex
  obtain rfl : u = Value.ref a := rx
  refine getmeth_ok I1 ea c hm l ?_
  exact PySem.W.callWith_K (first := [.ref a]) (h₀ := X.base) I.ok.mod.kin hm.kp (thn (q pos pins s1 I1) fun us s2 ⟨vs, H2, I2, r2, q2⟩ => ⟨I2.kIn, run_d (us := .ref a :: us) (vs := .ref a :: vs) F hr hgd hb hd tk I2 (.cons rfl r2) q2⟩) hst hpl⟩
theorem de_meth0 {pl : Sem Bool} (he : DE X W o ta) (c : Cls X.K C) (hm : Meth X.K C mn f) (F : FnD X.prog X.w X.K X.mg X.base k f fd ps d) (hr : Room k X.A) (hgd : X.A.guards = some []) (tk : Takes X W) (hb : Binds X.K fd ps ds) (hd : Vals dvs ds)
    (hy : ∀ G, RVs X.K G dvs dys) 
    (ht : eval (.Call (.Attribute o mn apos) [] [] pos) X.env = (eval o X.env >>= fun ov => standAt apos.atName >>= fun _ => holding [ov] (getMethod ov mn pl) >>= fun z =>
      callWith pos z.1 z.2 (backTo pos (starEach [] X.env)) (backToKw pos (keywordEach [] X.env))) := by rfl) :
    DE X W (.Call (.Attribute o mn apos) [] [] pos) (xMeth C mn d dys ta xNil) := ⟨fun {G r m σ H F' P Q} rs rh hx cv cx => fun pins s I => by
  have he' := he.run (Q := fun v H1 => ∃ a dx fs, v = V.ref a ∧ H1 a = some (.ins C dx fs) ∧ fs.lookup mn = none ∧ cz X.K d (.ref a :: dvs) H1 Q (WEx W σ)) rs rh hx (fun v y G1 m1 H1 e1 rh1 rv1 q1 => by
    obtain ⟨a, dx, gs, rfl, hma, hl, q⟩ := q1
    obtain ⟨fs, hH, hf⟩ := rh1.ins hma
    cases rv1.loc
    exact ⟨a, dx, fs, rfl, hH, RF.lookup_none hf hl, ⟨G1, m1, .l a :: dys, F', P, rh1, .cons (.l a) (hy G1), q, cv.mono e1, cx.mono e1⟩⟩) cx
  refine PySem.W.methodCall_KW (pl := pl) (thn (he' pins s I) fun u s1 ⟨v, H1, I1, rx, a, dx, fs, ex, ea, l, q⟩ => ?_) ht
  subst ex
  obtain rfl : u = Value.ref a := rx
  refine getmeth_ok I1 ea c hm l ?_
  exact PySem.W.callWith_K0 (first := [.ref a]) I1.kIn hm.kp (run_d (us := [.ref a]) (vs := [.ref a]) F hr hgd hb hd tk I1 (.cons rfl .nil) q)⟩

/-- C(..): a new instance, then __init__ -/
abbrev xMake (C : Addr) (d : DSp) (dys : List Y) (t : XA) : XE := fun r m F P => t r m (fun ys m1 => ∀ a dx, m1 a = none → d (.l a :: (ys ++ dys)) (mu m1 a (.ins C dx [])) (fun y m2 => y = .d .none ∧ F (.l a) m2) P) P
theorem make_guards {A : Around} {us : List Value} {kw : List (Str × Value)} (h : A.guards = some []) : (A.under (.builtin "type.__call__" ⟨.ref C :: us, kw⟩)).guards = some [] := by
  first
    | exact h
    | simp [Around.under, Code.guards, Code.isGuard, guardIds, pushGuards, h]
theorem de_make (M : Mk X.K C f) (F : FnD X.prog X.w X.K X.mg X.base k f fd ps d) (hr : Room (k + 1) X.A) (hgd : X.A.guards = some []) (tk : Takes X W) (hg : Gl X x) (hm : X.mg x = some (.ref C)) (hb : Binds X.K fd ps ds) (hd : Vals dvs ds)
    (hy : ∀ G, RVs X.K G dvs dys) (ha : DA X W (e :: es) t) (hdb : (x == ("__debug__" : Str)) = false := by decide) (he : starEach (e :: es) X.env = (false, eval e X.env) :: starEach es X.env := by rfl)
    (hpl : (backTo pos (starEach es X.env)).any (·.1) = false := by rfl) : DE X W (.Call (.Name x p) (e :: es) [] pos) (xMake C d dys t) := ⟨fun {G r m σ H F' P Q} rs rh hx cv cx => fun pins s I => by
  refine wpAny_Call_Name_kw (ld_glob I hg hm ?_ hdb)
  have ha' := ha.run (Q := fun vs H1 => ∀ a dx, H1 a = none → H1 dx = none → dx ≠ a → cz X.K d (.ref a :: (vs ++ dvs)) (upd (upd H1 dx (.own a)) a (.ins C dx [])) (fun v H2 => v = .non ∧ Q (.ref a) H2) (WEx W σ)) rs rh hx (fun vs ys G1 m1 H1 e1 rh1 rv1 q1 => fun a dx na ndx ne => by
    have f := rh1.free na
    have r1 : Rh X.K G1 m1 (upd H1 dx (.own a)) := ⟨fun b u q => by rw [upd_ne (ne_of_none (rh1.sub b u q) ndx)]; exact rh1.sub b u q, rh1.off, fun b u q => by
      obtain ⟨z, z1, z2⟩ := rh1.mem b u q
      exact ⟨z, by rw [upd_ne (ne_of_none z1 ndx)]; exact z1, z2⟩, rh1.tb.keep (Ex.refl _) (fun _ _ z => z) (fun _ _ z => z) (fun b o e _ => by rw [upd_ne (ne_of_none e ndx)]; exact e), rh1.nt⟩
    have r2 : Rh X.K G1 (mu m1 a (.ins C dx [])) (upd (upd H1 dx (.own a)) a (.ins C dx [])) := r1.new (by rw [upd_ne (Ne.symm ne)]; exact na) (.ins .nil)
    exact ⟨G1, _, .l a :: (ys ++ dys), fun y m2 => y = .d .none ∧ F' (.l a) m2, P, r2, .cons (.l a) (rv1.app (hy G1)), q1 a dx f.2,
      fun v y G2 m2 H2 e2 rh2 rv2 ⟨q2, q3⟩ => by subst q2; exact ⟨rv2.non, cv _ _ G2 m2 H2 (e1.trans e2) rh2 (.l a) q3⟩, cx.mono e1⟩) cx
  refine PySem.W.callWith_K (h₀ := X.base) I.ok.mod.kin M.kp (thn (ha' pos pins s I) fun us s1 ⟨vs, H1, I1, r1, q⟩ => ⟨I1.kIn, ?_⟩) he hpl
  have hq := q (s1.heap.objs.size + 1) s1.heap.objs.size (I1.hok.fresh (Nat.le_succ _)) (I1.hok.fresh (Nat.le_refl _)) (Nat.ne_of_lt (Nat.lt_succ_self _))
  have J := Inv.made (C := C) I1
  have rr : Vals (V.ref (s1.heap.objs.size + 1) :: (vs ++ dvs)) (Value.ref (s1.heap.objs.size + 1) :: (us ++ ds)) := .cons rfl (r1.append hd)
  have hl : (Value.ref (s1.heap.objs.size + 1) :: us ++ ds).length = ps.length := by
    obtain ⟨_, _, ys, _, _, _, z2, z3, _⟩ := id hq
    have z4 := F.len _ _ _ _ z3
    rw [← z2.length, rr.length] at z4
    exact z4
  refine wpAny_call (make_map (f := f) I1.kIn M.makes M.init (beq_iff_eq.mp M.fn) (codeAny_mono (F.run _ X.stack _ _ ⟨Value.ref (s1.heap.objs.size + 1) :: us, []⟩ (Value.ref (s1.heap.objs.size + 1) :: (us ++ ds)) _ _ (WEx W σ)
    (make_guards hgd) (hr.make C us []) (J.env0.make C us []) (hb _ (Value.ref (s1.heap.objs.size + 1) :: us) J.kIn hl) rr hq) fun z s' hz => ?_))
  match z, hz with
  | .error e, hz => exact passAt tk σ pins _ _ e s' J hz
  | .ok (.ret u), hz =>
    obtain ⟨v, H', I3, rv, ev, q3⟩ := J.after hz
    subst ev
    exact ⟨rv, ⟨V.ref (s1.heap.objs.size + 1), H', I3, rfl, q3⟩⟩
  | .ok .next, hz => exact False.elim hz
  | .ok .brk, hz => exact False.elim hz
  | .ok .cont, hz => exact False.elim hz⟩

/-! ### attributes -/
abbrev xFld (K : PySem.W.Frag) (ta : XE) (f : Str) : XE := fun r m F P => ta r m (fun y m1 => ∃ a C dx gs z, y = .l a ∧ m1 a = some (.ins C dx gs) ∧ Cls K C ∧ NoAttr K C f ∧ gs.lookup f = some z ∧ F z m1) P
theorem de_fld {fn : Str} (he : DE X W e ta) (hb : attributeBase e fn X.env (eval e X.env) = eval e X.env) : DE X W (.Attribute e fn pos) (xFld X.K ta fn) := ⟨fun {G r m σ H F P Q} rs rh hx cv cx =>
  se_of (pe_fld se_pe hb) (he.run rs rh hx (fun v y G1 m1 H1 e1 rh1 rv1 q1 => by
    obtain ⟨a, C, dx, gs, z, rfl, hm, hc, hn, hl, f⟩ := q1
    obtain ⟨fs, hH, hf⟩ := rh1.ins hm
    obtain ⟨u, hu, ru⟩ := RF.lookup hf hl
    exact ⟨a, C, dx, fs, u, rv1.loc, hH, hc, hn, hu, cv u z G1 m1 H1 e1 rh1 ru f⟩) cx)⟩
/-- a constant of the class -/
abbrev xCon (K : PySem.W.Frag) (ta : XE) (f : Str) : XE := fun r m F P => ta r m (fun y m1 => ∃ a C dx gs v u z, y = .l a ∧ m1 a = some (.ins C dx gs) ∧ Cls K C ∧ Con K C f v u ∧ gs.lookup f = none ∧ (∀ G, RV K G v z) ∧ F z m1) P
theorem de_con {fn : Str} (he : DE X W e ta) (hb : attributeBase e fn X.env (eval e X.env) = eval e X.env) : DE X W (.Attribute e fn pos) (xCon X.K ta fn) := ⟨fun {G r m σ H F P Q} rs rh hx cv cx =>
  se_of (pe_con se_pe hb) (he.run rs rh hx (fun v y G1 m1 H1 e1 rh1 rv1 q1 => by
    obtain ⟨a, C, dx, gs, v', u, z, rfl, hm, hc, hn, hl, hz, f⟩ := q1
    obtain ⟨fs, hH, hf⟩ := rh1.ins hm
    exact ⟨a, C, dx, fs, v', u, rv1.loc, hH, hc, hn, RF.lookup_none hf hl, cv v' z G1 m1 H1 e1 rh1 (hz G1) f⟩) cx)⟩
/-- a property -/
abbrev xProp (C : Addr) (d : DSp) (ta : XE) : XE := fun r m F P => ta r m (fun y m1 => ∃ a dx gs, y = .l a ∧ m1 a = some (.ins C dx gs) ∧ d [.l a] m1 F (fun _ _ _ => False)) P
theorem de_prop {pg : Addr} {fn : Str} (he : DE X W e ta) (c : Cls X.K C) (hp : PropOf X.K C fn pg f) (F : FnD X.prog X.w X.K X.mg X.base k f fd ps d) (hr : Room (k + 1) X.A) (hgd : X.A.guards = some []) (hb : Binds X.K fd ps [])
    (hab : attributeBase e fn X.env (eval e X.env) = eval e X.env) : DE X W (.Attribute e fn pos) (xProp C d ta) := ⟨fun {G r m σ H F' P Q} rs rh hx cv cx => fun pins s I => by
  have he' := he.run (Q := fun v H1 => ∃ a dx fs, v = V.ref a ∧ H1 a = some (.ins C dx fs) ∧ cz X.K d [.ref a] H1 Q E0) rs rh hx (fun v y G1 m1 H1 e1 rh1 rv1 q1 => by
    obtain ⟨a, dx, gs, rfl, hm, q⟩ := q1
    obtain ⟨fs, hH, hf⟩ := rh1.ins hm
    exact ⟨a, dx, fs, rv1.loc, hH, ⟨G1, m1, [.l a], F', _, rh1, .cons (.l a) .nil, q, cv.mono e1, fun _ _ _ _ _ _ _ _ _ z => z⟩⟩) cx
  refine attr_of hab (thn (he' pins s I) fun u s1 ⟨v, H1, I1, rx, a, dx, fs, ex, ea, q⟩ => ?_)
  subst ex
  obtain rfl : u = Value.ref a := rx
  obtain ⟨mA, O, _, _, _, _⟩ := ins_get I1.hok ea
  obtain ⟨od, J, _⟩ := O.look
  obtain ⟨rest, hrec⟩ := hp.rec_
  have I2 := I1.tok (s1.toks + 1)
  have hl : ([Value.ref a] ++ []).length = ps.length := by
    obtain ⟨_, _, ys, _, _, _, z2, z3, _⟩ := id q
    rw [← F.len _ _ _ _ z3, ← z2.length]
    rfl
  have hcs : (PySem.W.clsIn X.K C).isSome = true := by
    obtain ⟨cd, hc, _⟩ := PySem.W.any_some c.hd
    rw [hc]; rfl
  refine PySem.W.get_bind I1.kIn J (PySem.W.plainGet_of (c.get fn)).1 (PySem.W.findObj_data hcs hp.at_ hp.get hp.tak) (PySem.W.plainGet_of (c.get fn)).2 (wpAny_call (PySem.W.prop_get (s := { s1 with toks := s1.toks + 1 }) I1.kIn hrec ?_))
  refine codeAny_mono (F.run X.A.in1 X.stack { s1 with toks := s1.toks + 1 } H1 ⟨[.ref a], []⟩ [.ref a] [.ref a] Q E0 hgd hr.in1 I2.env0.in1 (hb _ [.ref a] I2.kIn hl) (.cons rfl .nil) q) fun z s' hz => ?_
  match z, hz with
  | .error er, hz => exact False.elim (passL (X := X.nox) pins σ H1 { s1 with toks := s1.toks + 1 } er s' (I2.wish _) hz)
  | .ok (.ret u), hz =>
    obtain ⟨v, H', I3, rv, q3⟩ := I2.after hz
    show wpAny _ _ (handedOut u) _ _ _
    rw [PySem.W.handedOut_of (handed_of rv)]
    exact wpAny_pure ⟨v, H', I3, rv, q3⟩
  | .ok .next, hz => exact False.elim hz
  | .ok .brk, hz => exact False.elim hz
  | .ok .cont, hz => exact False.elim hz⟩
end
end Dl
/-! D5: tests, built-in calls and methods. -/
namespace Dl
open PySem PySem.Spec PyProof.Rows L2 Evl

section
variable {X : Cx} {W : WX} {e a b c : Expr} {es rest : List Expr} {pos : Pos} {t ta tb tc : XE} {tt tA tB : XT} {K : PySem.W.Frag} {G H : Hp} {m : Mu}
/-! ### tests -/
abbrev xAnd (t u : XT) : XT := fun r m F P => t r m (fun k m1 => if k = true then u r m1 F P else F false m1) P
abbrev xOr (t u : XT) : XT := fun r m F P => t r m (fun k m1 => if k = true then F true m1 else u r m1 F P) P
abbrev xNot (t : XT) : XT := fun r m F P => t r m (fun k m1 => F (!k) m1) P
theorem DW.dt (h : DW X W e tt) : DT X W e tt := ⟨fun rs rh hx cv cx => fun pins s I => h.run rs rh hx cv cx _ pins s I⟩
theorem dw_and1 (h : DT X W a tt) : DW X W (.BoolOp .And [a] pos) tt := ⟨fun rs rh hx cv cx => sw_of (pw_and1 st_pt) (h.run rs rh hx cv cx)⟩
theorem dw_or1 (h : DT X W a tt) : DW X W (.BoolOp .Or [a] pos) tt := ⟨fun rs rh hx cv cx => sw_of (pw_or1 st_pt) (h.run rs rh hx cv cx)⟩
theorem dw_and (h1 : DT X W a tA) (h2 : DW X W (.BoolOp .And (b :: rest) pos) tB) : DW X W (.BoolOp .And (a :: b :: rest) pos) (xAnd tA tB) := ⟨fun {G r m σ H F P Q} rs rh hx cv cx =>
  sw_of (pw_and st_pt sw_pw) (h1.run rs rh hx (fun k G1 m1 H1 e1 rh1 q => by
    cases k with
    | true => exact h2.run (rs.mono e1) rh1 q (cv.mono e1) (cx.mono e1)
    | false => exact cv false G1 m1 H1 e1 rh1 q) cx)⟩
theorem dw_or (h1 : DT X W a tA) (h2 : DW X W (.BoolOp .Or (b :: rest) pos) tB) : DW X W (.BoolOp .Or (a :: b :: rest) pos) (xOr tA tB) := ⟨fun {G r m σ H F P Q} rs rh hx cv cx =>
  sw_of (pw_or st_pt sw_pw) (h1.run rs rh hx (fun k G1 m1 H1 e1 rh1 q => by
    cases k with
    | false => exact h2.run (rs.mono e1) rh1 q (cv.mono e1) (cx.mono e1)
    | true => exact cv true G1 m1 H1 e1 rh1 q) cx)⟩
theorem dt_not (h : DT X W a tA) : DT X W (.UnaryOp .Not a pos) (xNot tA) := ⟨fun {G r m σ H F P Q} rs rh hx cv cx =>
  st_of' (pt_not st_pt) (h.run rs rh hx (fun k G1 m1 H1 e1 rh1 q => cv (!k) G1 m1 H1 e1 rh1 q) cx)⟩
/-- truth -/
def truD : PyData → Option Bool
  | .none => some false | .bool b => some b | .int i => some (i != 0) | .str x => if x.length ≤ 10000 then some ((x.length : Int) != 0) else none
  | .list ds => some (!ds.isEmpty) | .tuple ds => some (!ds.isEmpty) | .dict es => none
def TruY (m : Mu) : Y → Bool → Prop
  | .d d, k => truD d = some k
  | .l p, k => ∃ ys, (m p = some (.lst ys) ∨ m p = some (.tup ys)) ∧ k = !ys.isEmpty
  | .r ds, k => k = !ds.isEmpty
  | .v _, _ => False
theorem emp_rvs {vs : List V} {ys : List Y} (q : RVs K G vs ys) : vs.isEmpty = ys.isEmpty := by cases q <;> rfl
theorem emp_das {vs : List V} {ds : List PyData} (q : DaAll K G vs ds) : vs.isEmpty = ds.isEmpty := by cases q <;> rfl
theorem truY_ok {v : V} {y : Y} {k : Bool} (rh : Rh K G m H) (rv : RV K G v y) (h : TruY m y k) : TruV K v H k := by
  cases rv with
  | d q =>
    cases q with
    | non => cases h; rfl
    | bl b => cases h; rfl
    | int i => cases h; rfl
    | str x =>
      have h' : (if x.length ≤ 10000 then some ((x.length : Int) != 0) else none) = some k := h
      by_cases z : x.length ≤ 10000
      · rw [if_pos z] at h'; cases h'; exact ⟨Nat.le_trans z szl, rfl⟩
      · rw [if_neg z] at h'; cases h'
    | lst r q => cases h; exact .inl ⟨_, .inl (rd_sub rh r), by rw [emp_das q]⟩
    | tup r q => cases h; exact .inr (.inl ⟨_, ex_t rh.sub r, by rw [emp_das q]⟩)
    | dic _ _ _ _ => cases h
  | l p =>
    obtain ⟨ys, h | h, e⟩ := h
    · obtain ⟨ws, e1, q⟩ := rh.lst h
      exact .inl ⟨ws, SqL.of e1, by rw [e, emp_rvs q]⟩
    · obtain ⟨ws, e1, q⟩ := rh.tup h
      exact .inr (.inl ⟨ws, SqT.of e1, by rw [e, emp_rvs q]⟩)
  | v x => exact h.elim
  | r s q => exact .inl ⟨_, ex_l rh.sub s, by rw [emp_das q]; exact h⟩
abbrev xTru (t : XE) : XT := fun r m F P => t r m (fun y m1 => ∃ k, TruY m1 y k ∧ F k m1) P
theorem dt_tru (h : DE X W e t) (he : ∀ wh, isTrue e X.env wh = (do let v ← wh; standAt e.pos; holding [v] (truthy v)) := by intro _; rfl) : DT X W e (xTru t) := ⟨fun {G r m σ H F P Q} rs rh hx cv cx =>
  st_of' (pt_truth se_pe he) (h.run rs rh hx (fun v y G1 m1 H1 e1 rh1 rv1 ⟨k, q1, q2⟩ => ⟨k, truY_ok rh1 rv1 q1, cv k G1 m1 H1 e1 rh1 q2⟩) cx)⟩
/-- .. as values -/
abbrev xAndV (ta tb : XE) : XE := fun r m F P => ta r m (fun y m1 => ∃ k, y = .d (.bool k) ∧ if k = true then tb r m1 F P else F (.d (.bool false)) m1) P
abbrev xOrV (ta tb : XE) : XE := fun r m F P => ta r m (fun y m1 => ∃ k, y = .d (.bool k) ∧ if k = true then F (.d (.bool true)) m1 else tb r m1 F P) P
abbrev xNotV (t : XE) : XE := fun r m F P => t r m (fun y m1 => ∃ k, TruY m1 y k ∧ F (.d (.bool (!k))) m1) P
theorem de_one {op} (h : DE X W a ta) : DE X W (.BoolOp op [a] pos) ta := ⟨fun rs rh hx cv cx => se_of (pe_one se_pe) (h.run rs rh hx cv cx)⟩
theorem de_and (h1 : DE X W a ta) (h2 : DE X W (.BoolOp .And (b :: rest) pos) tb) : DE X W (.BoolOp .And (a :: b :: rest) pos) (xAndV ta tb) := ⟨fun {G r m σ H F P Q} rs rh hx cv cx =>
  se_of (pe_and se_pe se_pe) (h1.run rs rh hx (fun v y G1 m1 H1 e1 rh1 rv1 ⟨k, q1, q2⟩ => by
    subst q1
    refine ⟨k, rv1.bl, ?_⟩
    cases k with
    | true => exact h2.run (rs.mono e1) rh1 q2 (cv.mono e1) (cx.mono e1)
    | false => exact cv _ _ G1 m1 H1 e1 rh1 (.d (.bl false)) q2) cx)⟩
theorem de_or (h1 : DE X W a ta) (h2 : DE X W (.BoolOp .Or (b :: rest) pos) tb) : DE X W (.BoolOp .Or (a :: b :: rest) pos) (xOrV ta tb) := ⟨fun {G r m σ H F P Q} rs rh hx cv cx =>
  se_of (pe_or se_pe se_pe) (h1.run rs rh hx (fun v y G1 m1 H1 e1 rh1 rv1 ⟨k, q1, q2⟩ => by
    subst q1
    refine ⟨k, rv1.bl, ?_⟩
    cases k with
    | false => exact h2.run (rs.mono e1) rh1 q2 (cv.mono e1) (cx.mono e1)
    | true => exact cv _ _ G1 m1 H1 e1 rh1 (.d (.bl true)) q2) cx)⟩
theorem de_not (h : DE X W a ta) : DE X W (.UnaryOp .Not a pos) (xNotV ta) := ⟨fun {G r m σ H F P Q} rs rh hx cv cx =>
  se_of (pe_notT se_pe) (h.run rs rh hx (fun v y G1 m1 H1 e1 rh1 rv1 ⟨k, q1, q2⟩ => ⟨k, truY_ok rh1 rv1 q1, cv _ _ G1 m1 H1 e1 rh1 (.d (.bl _)) q2⟩) cx)⟩
abbrev xIf (t : XT) (ta tb : XE) : XE := fun r m F P => t r m (fun k m1 => if k = true then ta r m1 F P else tb r m1 F P) P
theorem de_if (hc : DT X W c tt) (h1 : DE X W a ta) (h2 : DE X W b tb) : DE X W (.IfExp c a b pos) (xIf tt ta tb) := ⟨fun {G r m σ H F P Q} rs rh hx cv cx =>
  se_of (pe_ifExp st_pt se_pe se_pe) (hc.run rs rh hx (fun k G1 m1 H1 e1 rh1 q => by
    cases k with
    | true => exact h1.run (rs.mono e1) rh1 q (cv.mono e1) (cx.mono e1)
    | false => exact h2.run (rs.mono e1) rh1 q (cv.mono e1) (cx.mono e1)) cx)⟩
/-- a < b < c -/
abbrev xChain (x x' : XR) (ta tb tc : XE) : XE := fun r m F P => ta r m (fun y m1 => tb r m1 (fun z m2 => x y z m2 (fun u m3 => ∃ k, u = .d (.bool k) ∧ if k = true then tc r m3 (fun w m4 => x' z w m4 F) P else F (.d (.bool false)) m3)) P) P
theorem de_chain {op op' : CmpOp} {x x' : XR} (ho : OpD X (compareOp op) x) (ho' : OpD X (compareOp op') x') (h1 : DE X W a ta) (h2 : DE X W b tb) (h3 : DE X W c tc) (hm : lastMarks [op, op'] [b, c] = false := by with_unfolding_all rfl) :
    DE X W (.Compare a [op, op'] [b, c] pos) (xChain x x' ta tb tc) := ⟨fun {G r m σ H F P Q} rs rh hx cv cx => by
  obtain ⟨r1, g1, g2⟩ := ho
  obtain ⟨r2, g3, g4⟩ := ho'
  refine se_of (pe_chain g1 g3 se_pe se_pe se_pe hm) (h1.run rs rh hx (fun v y G1 m1 H1 e1 rh1 rv1 q1 =>
    h2.run (rs.mono e1) rh1 q1 (fun w z G2 m2 H2 e2 rh2 rv2 q2 => g2 rh2 (rv1.mono e2) rv2 q2 fun u x3 G3 m3 H3 e3 rh3 rv3 ⟨k, q3, q4⟩ => by
      subst q3
      refine ⟨k, rv3.bl, ?_⟩
      cases k with
      | true => exact h3.run (rs.mono ((e1.trans e2).trans e3)) rh3 q4 (fun w' x4 G4 m4 H4 e4 rh4 rv4 q5 => g4 rh4 (rv2.mono (e3.trans e4)) rv4 q5 (cv.mono (((e1.trans e2).trans e3).trans e4))) (cx.mono ((e1.trans e2).trans e3))
      | false => exact cv _ _ G3 m3 H3 ((e1.trans e2).trans e3) rh3 (.d (.bl false)) q4) (cx.mono e1)) cx)⟩

/-! ### built-in functions -/
abbrev XRC := List Y → Mu → (Y → Mu → Prop) → Prop
def CallD (X : Cx) (f : Value) (xr : XRC) : Prop := ∃ r, CallR X f r ∧
  ∀ {G : Hp} {m : Mu} {H : Hp} {vs : List V} {ys : List Y} {F : Y → Mu → Prop} {Q : VK}, Rh X.K G m H → RVs X.K G vs ys → xr ys m F → CvE X.K G F Q → r vs H Q
abbrev xCB (xr : XRC) (t : XA) : XE := fun r m F P => t r m (fun ys m1 => xr ys m1 F) P
theorem CallD.imp {f : Value} {x x' : XRC} (h : CallD X f x) (i : ∀ ys m F, x' ys m F → x ys m F) : CallD X f x' := by
  obtain ⟨r, h1, h2⟩ := h
  exact ⟨r, h1, fun rh rv hx cv => h2 rh rv (i _ _ _ hx) cv⟩
theorem CallD.or {f : Value} {x x' : XRC} (h : CallD X f x) (h' : CallD X f x') : CallD X f (fun ys m F => x ys m F ∨ x' ys m F) := by
  obtain ⟨r, h1, h2⟩ := h
  obtain ⟨r', h1', h2'⟩ := h'
  refine ⟨_, CallR.or h1 h1', fun rh rv hx cv => ?_⟩
  rcases hx with hx | hx
  · exact .inl (h2 rh rv hx cv)
  · exact .inr (h2' rh rv hx cv)
theorem de_cb {x : Str} {p : Pos} {id : String} {xr : XRC} {tx : XA} (hc : CallD X (.builtin id) xr) (hg : Gl X x) (hm : X.mg x = none) (hv : bootBuiltins x = some (.builtin id)) (ha : DA X W (e :: es) tx) (hn : x ≠ "__name__" := by decide) (hdb : (x == ("__debug__" : Str)) = false := by decide)
    (he : starEach (e :: es) X.env = (false, eval e X.env) :: starEach es X.env := by rfl) (hpl : (backTo pos (starEach es X.env)).any (·.1) = false := by rfl) : DE X W (.Call (.Name x p) (e :: es) [] pos) (xCB xr tx) := ⟨fun {G r m σ H F P Q} rs rh hx cv cx => by
  obtain ⟨r1, g1, g2⟩ := hc
  exact se_of (pe_callB g1 hg hm hv sa_pa hn hdb he hpl) (ha.run rs rh hx (fun vs ys G1 m1 H1 e1 rh1 rv1 q1 => g2 rh1 rv1 q1 (cv.mono e1)) cx)⟩
theorem de_cty {x : Str} {p : Pos} {T : String} {xr : XRC} {tx : XA} (hc : CallD X (.type T) xr) (hg : Gl X x) (hm : X.mg x = none) (hv : bootBuiltins x = some (.type T)) (ha : DA X W (e :: es) tx) (hn : x ≠ "__name__" := by decide) (hdb : (x == ("__debug__" : Str)) = false := by decide)
    (he : starEach (e :: es) X.env = (false, eval e X.env) :: starEach es X.env := by rfl) (hpl : (backTo pos (starEach es X.env)).any (·.1) = false := by rfl) : DE X W (.Call (.Name x p) (e :: es) [] pos) (xCB xr tx) := ⟨fun {G r m σ H F P Q} rs rh hx cv cx => by
  obtain ⟨r1, g1, g2⟩ := hc
  exact se_of (pe_callTy g1 hg hm hv sa_pa hn hdb he hpl) (ha.run rs rh hx (fun vs ys G1 m1 H1 e1 rh1 rv1 q1 => g2 rh1 rv1 q1 (cv.mono e1)) cx)⟩
theorem rvs1 {vs : List V} {y : Y} (h : RVs K G vs [y]) : ∃ v, vs = [v] ∧ RV K G v y := by
  cases h with
  | cons h t => cases t; exact ⟨_, rfl, h⟩
theorem rvs2 {vs : List V} {y z : Y} (h : RVs K G vs [y, z]) : ∃ v w, vs = [v, w] ∧ RV K G v y ∧ RV K G w z := by
  cases h with
  | cons h t =>
    cases t with
    | cons h2 t => cases t; exact ⟨_, _, rfl, h, h2⟩
abbrev xLen : XRC := fun ys m F => ∃ y zs, ys = [y] ∧ ((∃ x, y = .d (.str x) ∧ x.length ≤ 10000 ∧ zs.length = x.length) ∨ SqY m y zs) ∧ F (.d (.int zs.length)) m
theorem cd_len : CallD X (.builtin "len") xLen := ⟨_, call_len, fun {G m H vs ys F Q} rh rv hx cv => by
  obtain ⟨y, zs, rfl, hs, f⟩ := hx
  obtain ⟨v, rfl, rw⟩ := rvs1 rv
  refine ⟨v, zs.length, rfl, ?_, cv.at rh (.d (.int _)) f⟩
  rcases hs with ⟨x, rfl, hx, hl⟩ | hs
  · cases rw.str
    exact ⟨Nat.le_trans hx szl, hl⟩
  · obtain ⟨p, ws, rfl, s1, q⟩ := sqY_ok rh rw hs
    rcases s1 with s1 | s1
    · exact .inl ⟨ws, s1, q.length.symm⟩
    · exact .inr ⟨ws, s1, q.length.symm⟩⟩
/-- tuple(..) of a sequence: a new one of a list, itself of a tuple -/
abbrev xTupOf : XRC := fun ys m F => ∃ y, ys = [y] ∧ ((∃ ds, y = .d (.tuple ds) ∧ F y m) ∨ ∃ zs, LsY m y zs ∧ mkT zs m F)
theorem cd_tuple : CallD X (.type "tuple") xTupOf := ⟨_, call_tuple_of, fun {G m H vs ys F Q} rh rv hx cv => by
  obtain ⟨y, rfl, hs⟩ := hx
  obtain ⟨v, rfl, rw⟩ := rvs1 rv
  rcases hs with ⟨ds, rfl, f⟩ | ⟨zs, hs, f⟩
  · obtain ⟨p, ws, rfl, s1, q⟩ := rw.tup
    exact ⟨p, ws, rfl, .inr ⟨ex_t rh.sub s1, cv.at rh rw f⟩⟩
  · obtain ⟨p, ws, rfl, s1, q⟩ := lsY_ok rh rw hs
    exact ⟨p, ws, rfl, .inl ⟨.inl s1, fun l hl => mkT_ok rh q hl f cv⟩⟩⟩
/-- list(..): data -/
abbrev xListOf : XRC := fun ys m F => ∃ y ds, ys = [y] ∧ SqY m y (ds.map Y.d) ∧ F (.d (.list ds)) m
theorem cd_list : CallD X (.type "list") xListOf := ⟨_, call_list_of, fun {G m H vs ys F Q} rh rv hx cv => by
  obtain ⟨y, ds, rfl, hs, f⟩ := hx
  obtain ⟨v, rfl, rw⟩ := rvs1 rv
  obtain ⟨p, ws, rfl, s1, q⟩ := sqY_ok rh rw hs
  exact ⟨p, ws, rfl, s1, fun l hl => lstD_ok rh q hl f cv⟩⟩
abbrev xMax2 : XRC := fun ys m F => ∃ i j, ys = [.d (.int i), .d (.int j)] ∧ F (.d (.int (if j > i then j else i))) m
theorem cd_max2 (hc : X.calm = true) : CallD X (.builtin "max") xMax2 := ⟨_, call_max2 hc, fun {G m H vs ys F Q} rh rv hx cv => by
  obtain ⟨i, j, rfl, f⟩ := hx
  obtain ⟨v, w, rfl, r1, r2⟩ := rvs2 rv
  exact ⟨i, j, by rw [r1.int, r2.int], cv.at rh (.d (.int _)) f⟩⟩
abbrev xMin2 : XRC := fun ys m F => ∃ i j, ys = [.d (.int i), .d (.int j)] ∧ F (.d (.int (if j < i then j else i))) m
theorem cd_min2 (hc : X.calm = true) : CallD X (.builtin "min") xMin2 := ⟨_, call_min2 hc, fun {G m H vs ys F Q} rh rv hx cv => by
  obtain ⟨i, j, rfl, f⟩ := hx
  obtain ⟨v, w, rfl, r1, r2⟩ := rvs2 rv
  exact ⟨i, j, by rw [r1.int, r2.int], cv.at rh (.d (.int _)) f⟩⟩
theorem ints_rvs : ∀ {vs : List V} {ns : List Int}, DaAll K G vs (ns.map PyData.int) → vs = ns.map V.int
  | [], [], .nil => rfl
  | _ :: _, _ :: _, .cons h t => by cases h; rw [List.map_cons, ints_rvs t]
theorem bls_rvs : ∀ {vs : List V} {ns : List Bool}, DaAll K G vs (ns.map PyData.bool) → vs = ns.map V.bl
  | [], [], .nil => rfl
  | _ :: _, _ :: _, .cons h t => by cases h; rw [List.map_cons, bls_rvs t]
abbrev xSum : XRC := fun ys m F => ∃ (y : Y) (ns : List Int), ys = [y] ∧ LsY m y ((ns.map PyData.int).map Y.d) ∧ F (.d (.int ns.sum)) m
theorem cd_sum (hc : X.calm = true) : CallD X (.builtin "sum") xSum := ⟨_, cr_sum hc, fun {G m H vs ys F Q} rh rv hx cv => by
  obtain ⟨y, ns, rfl, hs, f⟩ := hx
  obtain ⟨v, rfl, rw⟩ := rvs1 rv
  obtain ⟨p, ws, rfl, s1, q⟩ := lsY_ok rh rw hs
  exact ⟨p, ns, rfl, by rw [← ints_rvs (RVs.das q)]; exact .inl s1, cv.at rh (.d (.int _)) f⟩⟩
abbrev xAll : XRC := fun ys m F => ∃ (y : Y) (ns : List Bool), ys = [y] ∧ LsY m y ((ns.map PyData.bool).map Y.d) ∧ F (.d (.bool (ns.all id))) m
theorem cd_all (hc : X.calm = true) : CallD X (.builtin "all") xAll := ⟨_, cr_all hc, fun {G m H vs ys F Q} rh rv hx cv => by
  obtain ⟨y, ns, rfl, hs, f⟩ := hx
  obtain ⟨v, rfl, rw⟩ := rvs1 rv
  obtain ⟨p, ws, rfl, s1, q⟩ := lsY_ok rh rw hs
  exact ⟨p, ns, rfl, by rw [← bls_rvs (RVs.das q)]; exact .inl s1, cv.at rh (.d (.bl _)) f⟩⟩
abbrev xAny : XRC := fun ys m F => ∃ (y : Y) (ns : List Bool), ys = [y] ∧ LsY m y ((ns.map PyData.bool).map Y.d) ∧ F (.d (.bool (ns.any id))) m
theorem cd_any (hc : X.calm = true) : CallD X (.builtin "any") xAny := ⟨_, cr_any hc, fun {G m H vs ys F Q} rh rv hx cv => by
  obtain ⟨y, ns, rfl, hs, f⟩ := hx
  obtain ⟨v, rfl, rw⟩ := rvs1 rv
  obtain ⟨p, ws, rfl, s1, q⟩ := lsY_ok rh rw hs
  exact ⟨p, ns, rfl, by rw [← bls_rvs (RVs.das q)]; exact .inl s1, cv.at rh (.d (.bl _)) f⟩⟩
/-- isinstance(x, T), T a built-in class -/
def tyD : PyData → String
  | .none => "NoneType" | .bool _ => "bool" | .int _ => "int" | .str _ => "str" | .list _ => "list" | .tuple _ => "tuple" | .dict _ => "dict"
theorem tyX_ok {v : V} {d : PyData} (rh : Rh K G m H) (h : Da K G v d) : TyX K H v (.type (tyD d)) := by
  cases h with
  | non => exact .base .non
  | bl b => exact .base (.bl b)
  | int i => exact .base (.int i)
  | str x => exact .base (.str x)
  | lst r q =>
    rcases r with r | ⟨o, r⟩
    · exact .base (.lst (rh.sub _ _ r))
    · exact .base (.frz (rh.sub _ _ r))
  | tup r q =>
    rcases r with (r | ⟨o, r⟩) | ⟨o, its, n, hk, hc, _⟩
    · exact .base (.tup (rh.sub _ _ r))
    · exact .fTuple (rh.sub _ _ r)
    · exact .kTuple hk hc
  | dic r _ _ _ =>
    rcases r with r | ⟨o, r⟩
    · exact .base (.dK (rh.sub _ _ r))
    · exact .fDict (rh.sub _ _ r)
abbrev xIsi (K : PySem.W.Frag) : XRC := fun ys m F => ∃ d n b, ys = [.d d, .v (.ty n)] ∧ PySem.W.kitOne K (.type (tyD d)) (.type n) = some b ∧ F (.d (.bool b)) m
theorem cd_isi : CallD X (.builtin "isinstance") (xIsi X.K) := ⟨_, call_isi, fun {G m H vs ys F Q} rh rv hx cv => by
  obtain ⟨d, n, b, rfl, e, f⟩ := hx
  obtain ⟨v, w, rfl, r1, r2⟩ := rvs2 rv
  cases r2
  exact ⟨v, .ty n, .type (tyD d), .type n, b, rfl, .ty n, tyX_ok rh r1.da, e, cv.at rh (.d (.bl b)) f⟩⟩
abbrev xStrI : XRC := fun ys m F => ∃ i, ys = [.d (.int i)] ∧ i.natAbs.log2 < 1920 ∧ F (.d (.str (toString i))) m
theorem cd_str : CallD X (.type "str") xStrI := ⟨_, call_str_int, fun {G m H vs ys F Q} rh rv hx cv => by
  obtain ⟨i, rfl, hi, f⟩ := hx
  obtain ⟨v, rfl, r1⟩ := rvs1 rv
  exact ⟨i, by rw [r1.int], hi, cv.at rh (.d (.str _)) f⟩⟩
end
end Dl
/-! D6: statements, targets, what is walked, comprehensions, a def by its body. -/
namespace Dl
open PySem PySem.Spec PyProof.Rows L2 Evl

/-! ### meanings -/
section
variable (X : Cx)
def SG (tg : Expr) : TG := fun v σ H Q => ∀ (pins : List (Addr × Obj)) (s : Shared) (u : Value), Inv X pins σ H s → RelV v u → wpAny (model X.prog X.w) X.A (assign tg X.env u) (fun _ s' => ∃ σ' H', Inv X pins σ' H' s' ∧ Q σ' H') X.xe s
def SGs (ts : List Expr) : TGs := fun vs σ H Q => ∀ (pins : List (Addr × Obj)) (s : Shared) (us : List Value), Inv X pins σ H s → Vals vs us → wpAny (model X.prog X.w) X.A (assignInOrder ((assignEach ts X.env).map (·.2)) us) (fun _ s' => ∃ σ' H', Inv X pins σ' H' s' ∧ Q σ' H') X.xe s
def SI (tg it : Expr) : TI := fun σ H R => ∀ (pins : List (Addr × Obj)) (s : Shared), Inv X pins σ H s → wpAny (model X.prog X.w) X.A (eval it X.env) (fun v s1 => wpAny (model X.prog X.w) X.A (pyIter v) (PIE X pins σ tg R) X.xe s1) X.xe s
def SSt (st : Stmt) : TS := fun D σ H => ∀ (pins : List (Addr × Obj)) (s : Shared), Inv X pins σ H s → wpAny (model X.prog X.w) X.A (exec st X.env) (SP X pins D) X.xe s
def SSts (st : List Stmt) : TS := fun D σ H => ∀ (pins : List (Addr × Obj)) (s : Shared), Inv X pins σ H s → wpAny (model X.prog X.w) X.A (execs st X.env) (SP X pins D) X.xe s
end
section
variable {X : Cx} {e tg it : Expr} {ts : List Expr} {st : Stmt} {sts : List Stmt} {σ : L2.St} {H : Hp}
theorem sg_pg : PG X tg (SG X tg) := ⟨fun pins s _ _ _ u _ I r h => h pins s u I r⟩
theorem sgs_pgs : PGs X ts (SGs X ts) := ⟨fun pins s _ _ _ us _ I r h => h pins s us I r⟩
theorem si_pi : PI X tg it (SI X tg it) := ⟨fun pins s _ _ _ I h => h pins s I⟩
theorem ss_ps : PS X st (SSt X st) := ⟨fun pins s _ _ _ I h => h pins s I⟩
theorem sss_pss : PSs X sts (SSts X sts) := ⟨fun pins s _ _ _ I h => h pins s I⟩
theorem sg_of {t : TG} {v : V} {Q : L2.St → Hp → Prop} (h : PG X tg t) (q : t v σ H Q) : SG X tg v σ H Q := fun pins s u I r => h.run pins s σ H v u Q I r q
theorem sgs_of {t : TGs} {v : List V} {Q : L2.St → Hp → Prop} (h : PGs X ts t) (q : t v σ H Q) : SGs X ts v σ H Q := fun pins s u I r => h.run pins s σ H v u Q I r q
theorem si_of {t : TI} {R : It → Hp → Prop} (h : PI X tg it t) (q : t σ H R) : SI X tg it σ H R := fun pins s I => h.run pins s σ H R I q
theorem ss_of {t : TS} {D : Ends} (h : PS X st t) (q : t D σ H) : SSt X st D σ H := fun pins s I => h.run pins s σ H D I q
theorem sss_of {t : TS} {D : Ends} (h : PSs X sts t) (q : t D σ H) : SSts X sts D σ H := fun pins s I => h.run pins s σ H D I q
end

/-! ### ends -/
abbrev XPr := Value → List (Str × Y) → Ro → Mu → Prop
structure DEnds where
  nx : Ro → Mu → Prop
  rt : Y → Mu → Prop
  bk : Ro → Mu → Prop := fun _ _ => False
  ct : Ro → Mu → Prop := fun _ _ => False
  ex : XPr := fun _ _ _ _ => False
abbrev DEnds.at (D : DEnds) (r : Ro) : XP := fun c fs m => D.ex c fs r m
abbrev XS := DEnds → Ro → Mu → Prop
structure Fits (K : PySem.W.Frag) (W : WX) (G : Hp) (D : DEnds) (E : Ends) : Prop where
  nx : ∀ σ r G' m H, Ex G G' → Rs K G' σ r → Rh K G' m H → D.nx r m → E.nx σ H
  rt : ∀ v y G' m H, Ex G G' → Rh K G' m H → RV K G' v y → D.rt y m → E.rt v H
  bk : ∀ σ r G' m H, Ex G G' → Rs K G' σ r → Rh K G' m H → D.bk r m → E.bk σ H
  ct : ∀ σ r G' m H, Ex G G' → Rs K G' σ r → Rh K G' m H → D.ct r m → E.ct σ H
  ex : ∀ cls d fs σ r G' m H, Ex G G' → Rs K G' σ r → Rh K G' m H → XF K G' H d fs → D.ex cls fs r m → W cls d σ H
section
variable {K : PySem.W.Frag} {W : WX} {G G' : Hp} {D : DEnds} {E : Ends}
theorem Fits.mono (e : Ex G G') (f : Fits K W G D E) : Fits K W G' D E :=
  ⟨fun σ r G1 m H e1 => f.nx σ r G1 m H (e.trans e1), fun v y G1 m H e1 => f.rt v y G1 m H (e.trans e1), fun σ r G1 m H e1 => f.bk σ r G1 m H (e.trans e1),
    fun σ r G1 m H e1 => f.ct σ r G1 m H (e.trans e1), fun c d fs σ r G1 m H e1 => f.ex c d fs σ r G1 m H (e.trans e1)⟩
theorem Fits.cx {σ : L2.St} {r : Ro} (f : Fits K W G D E) (rs : Rs K G σ r) : CvX K G (D.at r) (WEx W σ) := fun c d fs G1 m H e1 rh xf h => f.ex c d fs σ r G1 m H e1 (rs.mono e1) rh xf h
theorem Fits.nx_of {nx : Ro → Mu → Prop} {nE : L2.St → Hp → Prop} (f : Fits K W G D E) (h : ∀ σ r G' m H, Ex G G' → Rs K G' σ r → Rh K G' m H → nx r m → nE σ H) : Fits K W G { D with nx := nx } { E with nx := nE } :=
  ⟨h, f.rt, f.bk, f.ct, f.ex⟩
end
structure DS (X : Cx) (W : WX) (st : Stmt) (t : XS) : Prop where
  run : ∀ {G : Hp} {r : Ro} {m : Mu} {σ : L2.St} {H : Hp} {D : DEnds} {E : Ends}, Rs X.K G σ r → Rh X.K G m H → t D r m → Fits X.K W G D E → SSt X st E σ H
structure DSs (X : Cx) (W : WX) (sts : List Stmt) (t : XS) : Prop where
  run : ∀ {G : Hp} {r : Ro} {m : Mu} {σ : L2.St} {H : Hp} {D : DEnds} {E : Ends}, Rs X.K G σ r → Rh X.K G m H → t D r m → Fits X.K W G D E → SSts X sts E σ H
/-- targets -/
abbrev XG := Y → Ro → Mu → (Ro → Mu → Prop) → Prop
abbrev XGs := List Y → Ro → Mu → (Ro → Mu → Prop) → Prop
def CvG (K : PySem.W.Frag) (G : Hp) (F : Ro → Mu → Prop) (Q : L2.St → Hp → Prop) : Prop := ∀ σ r G' m H, Ex G G' → Rs K G' σ r → Rh K G' m H → F r m → Q σ H
theorem CvG.mono {K : PySem.W.Frag} {G G' : Hp} {F : Ro → Mu → Prop} {Q : L2.St → Hp → Prop} (e : Ex G G') (c : CvG K G F Q) : CvG K G' F Q := fun σ r G1 m H e1 => c σ r G1 m H (e.trans e1)
structure DG (X : Cx) (tg : Expr) (g : XG) : Prop where
  run : ∀ {G : Hp} {r : Ro} {m : Mu} {σ : L2.St} {H : Hp} {v : V} {y : Y} {F : Ro → Mu → Prop} {Q : L2.St → Hp → Prop}, Rs X.K G σ r → Rh X.K G m H → RV X.K G v y → g y r m F → CvG X.K G F Q → SG X tg v σ H Q
structure DGs (X : Cx) (ts : List Expr) (g : XGs) : Prop where
  run : ∀ {G : Hp} {r : Ro} {m : Mu} {σ : L2.St} {H : Hp} {vs : List V} {ys : List Y} {F : Ro → Mu → Prop} {Q : L2.St → Hp → Prop}, Rs X.K G σ r → Rh X.K G m H → RVs X.K G vs ys → g ys r m F → CvG X.K G F Q → SGs X ts vs σ H Q

section
variable {X : Cx} {W : WX} {e a b c o i tg : Expr} {es ts rest : List Expr} {st : Stmt} {sts : List Stmt} {pos : Pos} {t ta tb tc to ti : XE} {tt : XT} {u u' : XS} {g : XG} {gs : XGs} {K : PySem.W.Frag}
/-! ### targets -/
abbrev xgName (i : Nat) : XG := fun y r m F => F (r.set i (some y)) m
theorem dg_name {i : Nat} {x : Str} (hN : X.N.Nodup) (hi : X.N[i]? = some x) (hx : Loc X.env.scope x) (hf : X.fn x = true ∨ X.env.scope.names.lookup x = some .local := by first | exact .inl rfl | exact .inr rfl | assumption) : DG X (.Name x pos) (xgName i) :=
  ⟨fun {G r m σ H v y F Q} rs rh rv hx' cv => sg_of (pg_name hN hi hx hf) (cv _ _ G m H (Ex.refl G) (rs.set rv i) rh hx')⟩
abbrev xgNil : XGs := fun ys r m F => ys = [] ∧ F r m
abbrev xgCons (g : XG) (gs : XGs) : XGs := fun ys r m F => ∃ y zs, ys = y :: zs ∧ g y r m (fun r1 m1 => gs zs r1 m1 F)
theorem dgs_nil : DGs X [] xgNil := ⟨fun {G r m σ H vs ys F Q} rs rh rv ⟨e, h⟩ cv => by
  subst e; cases rv
  exact sgs_of pgs_nil ⟨rfl, cv _ _ G m H (Ex.refl G) rs rh h⟩⟩
theorem dgs_cons (h1 : DG X e g) (h2 : DGs X es gs) (hs : (assignEach (e :: es) X.env).map (·.2) = assign e X.env :: (assignEach es X.env).map (·.2) := by rfl) : DGs X (e :: es) (xgCons g gs) := ⟨fun {G r m σ H vs ys F Q} rs rh rv ⟨y, zs, e1, h⟩ cv => by
  subst e1
  cases rv with
  | cons r1 r2 => exact sgs_of (pgs_cons sg_pg sgs_pgs hs) ⟨_, _, rfl, h1.run rs rh r1 h fun σ1 r3 G1 m1 H1 e1 rs1 rh1 q => h2.run rs1 rh1 (RVs.mono e1 r2) q (cv.mono e1)⟩⟩
abbrev xgTup (n : Nat) (gs : XGs) : XG := fun y r m F => ∃ ys, SqY m y ys ∧ (∀ ds, y ≠ .d (.list ds)) ∧ (∀ p, y = .l p → m p = some (.tup ys)) ∧ (∀ ds, y ≠ .r ds) ∧ ys.length = n ∧ gs ys r m F
theorem dg_tup {k n : Nat} (hc : X.calm = true) (h : DGs X es gs) (hn : (assignEach es X.env).length = n := by rfl) (hst : (assignEach es X.env).findIdx? (·.1) = none := by rfl) : DG X (.Tuple es k pos) (xgTup n gs) := ⟨fun {G r m σ H v y F Q} rs rh rv ⟨ys, h1, h2, h3, h4, h5, h6⟩ cv => by
  have z : ∃ p vs, v = .ref p ∧ SqT X.K H p vs ∧ RVs X.K G vs ys := by
    cases rv with
    | d q =>
      cases q with
      | tup s q => cases h1; exact ⟨_, _, rfl, ex_t rh.sub s, q.rvs⟩
      | lst s q => exact absurd rfl (h2 _)
      | _ => exact h1.elim
    | l p =>
      obtain ⟨ws, e, q⟩ := rh.tup (h3 p rfl)
      exact ⟨p, ws, rfl, SqT.of e, q⟩
    | v x => exact h1.elim
    | r s q => exact absurd rfl (h4 _)
  obtain ⟨p, vs, rfl, s1, q⟩ := z
  exact sg_of (pg_tup hc sgs_pgs hn hst) ⟨p, vs, rfl, s1, by rw [q.length]; exact h5, h.run rs rh q h6 cv⟩⟩
/-- xs[i] = .. -/
abbrev xgSub (to ti : XE) : XG := fun v r m F => to r m (fun y m1 => ti r m1 (fun z m2 => ∃ p ys k j, y = .l p ∧ z = .d (.int k) ∧ m2 p = some (.lst ys) ∧ ixN ys.length k = some j ∧ F r (mu m2 p (.lst (ys.set j v)))) (fun _ _ _ => False)) (fun _ _ _ => False)
theorem cx_no {σ : L2.St} {G : Hp} : CvX K G (fun _ _ _ => False) (WEx W σ) := fun _ _ _ _ _ _ _ _ _ h => h.elim
theorem dg_sub (ho : DE X W o to) (hi : DE X W i ti) (ha : ∀ v, assign (.Subscript o i pos) X.env v = (holding [v] (eval o X.env) >>= fun ov => holding [v, ov] (eval i X.env) >>= fun iv => standAt pos >>= fun _ => holding [v, ov, iv] (setItem ov iv v) >>= fun _ => release [v, ov, iv] []) := by intro _; rfl) :
    DG X (.Subscript o i pos) (xgSub to ti) := ⟨fun {G r m σ H v y F Q} rs rh rv h cv =>
  sg_of (pg_sub se_pe se_pe set_list ha) (ho.run (W := W) rs rh h (fun v1 y1 G1 m1 H1 e1 rh1 rv1 q1 =>
    hi.run (rs.mono e1) rh1 q1 (fun v2 y2 G2 m2 H2 e2 rh2 rv2 ⟨p, ys, k, j, q3, q4, q5, q6, q7⟩ => by
      subst q3 q4
      cases rv1.loc
      obtain ⟨ws, e5, q8⟩ := rh2.lst q5
      exact ⟨p, ws, k, j, rfl, rv2.int, e5, by rw [q8.length]; exact q6, cv _ _ G2 _ _ (e1.trans e2) (rs.mono (e1.trans e2)) (rh2.write q5 (.lst (RVs.set (rv.mono (e1.trans e2)) j q8))) q7⟩) cx_no) cx_no)⟩

/-! ### blocks -/
abbrev xNext : XS := fun D r m => D.nx r m
abbrev xSeq (t u : XS) : XS := fun D r m => t { D with nx := u D } r m
theorem dss_nil : DSs X W [] xNext := ⟨fun {G r m σ H D E} rs rh h f => sss_of pss_nil (f.nx _ _ G m H (Ex.refl G) rs rh h)⟩
theorem dss_cons (h1 : DS X W st u) (h2 : DSs X W sts u') : DSs X W (st :: sts) (xSeq u u') := ⟨fun {G r m σ H D E} rs rh h f =>
  sss_of (pss_cons ss_ps sss_pss) (h1.run (D := { D with nx := u' D }) rs rh h (f.nx_of fun σ1 r1 G1 m1 H1 e1 rs1 rh1 q => h2.run rs1 rh1 q (f.mono e1)))⟩
theorem dss_one (h1 : DS X W st u) : DSs X W [st] u := ⟨fun {G r m σ H D E} rs rh h f => sss_of (pss_one ss_ps) (h1.run rs rh h f)⟩
theorem ds_pass : DS X W (.Pass pos) xNext := ⟨fun {G r m σ H D E} rs rh h f => ss_of ps_pass (f.nx _ _ G m H (Ex.refl G) rs rh h)⟩
abbrev xBreak : XS := fun D r m => D.bk r m
abbrev xCont : XS := fun D r m => D.ct r m
theorem ds_break : DS X W (.Break pos) xBreak := ⟨fun {G r m σ H D E} rs rh h f => ss_of ps_break (f.bk _ _ G m H (Ex.refl G) rs rh h)⟩
theorem ds_cont : DS X W (.Continue pos) xCont := ⟨fun {G r m σ H D E} rs rh h f => ss_of ps_continue (f.ct _ _ G m H (Ex.refl G) rs rh h)⟩
abbrev xDrop (t : XE) : XS := fun D r m => t r m (fun _ m1 => D.nx r m1) (D.at r)
theorem ds_expr (h : DE X W e t) (hs : swapsWith e none pos.line X.env = pure false := by rfl) : DS X W (.Expr e pos) (xDrop t) := ⟨fun {G r m σ H D E} rs rh hx f =>
  ss_of (ps_expr se_pe hs) (h.run rs rh hx (fun v y G1 m1 H1 e1 rh1 rv1 q => f.nx _ _ G1 m1 H1 e1 (rs.mono e1) rh1 q) (f.cx rs))⟩
abbrev xRet (t : XE) : XS := fun D r m => t r m D.rt (D.at r)
theorem ds_ret (h : DE X W e t) : DS X W (.Return (some e) pos) (xRet t) := ⟨fun {G r m σ H D E} rs rh hx f =>
  ss_of (ps_ret se_pe) (h.run rs rh hx (fun v y G1 m1 H1 e1 rh1 rv1 q => f.rt v y G1 m1 H1 e1 rh1 rv1 q) (f.cx rs))⟩
abbrev xRetN : XS := fun D _ m => D.rt (.d .none) m
theorem ds_retN : DS X W (.Return none pos) xRetN := ⟨fun {G r m σ H D E} rs rh hx f => ss_of ps_retN (f.rt _ _ G m H (Ex.refl G) rh (.d .non) hx)⟩
abbrev xIfS (c : XT) (t u : XS) : XS := fun D r m => c r m (fun k m1 => if k = true then t D r m1 else u D r m1) (D.at r)
theorem ds_if {sa sb : List Stmt} (hc : DT X W c tt) (ha : DSs X W sa u) (hb : DSs X W sb u') : DS X W (.If c sa sb pos) (xIfS tt u u') := ⟨fun {G r m σ H D E} rs rh hx f =>
  ss_of (ps_if st_pt sss_pss sss_pss) (hc.run rs rh hx (fun k G1 m1 H1 e1 rh1 q => by
    cases k with
    | true => exact ha.run (rs.mono e1) rh1 q (f.mono e1)
    | false => exact hb.run (rs.mono e1) rh1 q (f.mono e1)) (f.cx rs))⟩
abbrev xNever : XS := fun _ _ _ => False
theorem ds_never : DS X W st xNever := ⟨fun _ _ h _ => h.elim⟩
theorem dss_never : DSs X W sts xNever := ⟨fun _ _ h _ => h.elim⟩
abbrev xAsg (t : XE) (g : XG) : XS := fun D r m => t r m (fun y m1 => g y r m1 D.nx) (D.at r)
theorem ds_asg (he : DE X W e t) (hg : DG X tg g) (hs : swapsWithSole [tg] e pos.line X.env = pure false := by rfl) (hw : swappedStores [tg] e X.env = pure none := by rfl)
    (h1 : (assignEach [tg] X.env).map (·.2) = [assign tg X.env] := by rfl) : DS X W (.Assign [tg] e pos) (xAsg t g) := ⟨fun {G r m σ H D E} rs rh hx f =>
  ss_of (ps_asg se_pe sg_pg hs hw h1) (he.run rs rh hx (fun v y G1 m1 H1 e1 rh1 rv1 q => hg.run (rs.mono e1) rh1 rv1 q (fun σ2 r2 G2 m2 H2 e2 rs2 rh2 q2 => f.nx _ _ G2 m2 H2 (e1.trans e2) rs2 rh2 q2)) (f.cx rs))⟩
theorem ds_set {i : Nat} {x : Str} {pos' : Pos} (hN : X.N.Nodup) (hi : X.N[i]? = some x) (hx : Loc X.env.scope x) (he : DE X W e t) (hs : swapsWith e (some (.Name x pos')) pos.line X.env = pure false := by rfl) (hf : X.fn x = true ∨ X.env.scope.names.lookup x = some .local := by first | exact .inl rfl | exact .inr rfl | assumption) :
    DS X W (.Assign [.Name x pos'] e pos) (xAsg t (xgName i)) := ⟨fun {G r m σ H D E} rs rh hx' f =>
  ss_of (ps_set hN hi hx se_pe hs hf) (he.run rs rh hx' (fun v y G1 m1 H1 e1 rh1 rv1 q => f.nx _ _ G1 m1 H1 e1 ((rs.mono e1).set rv1 i) rh1 q) (f.cx rs))⟩
abbrev xPar (i j : Nat) (ta : XA) : XS := fun D r m => ta r m (fun ys m1 => ∃ y z, ys = [y, z] ∧ D.nx ((r.set i (some y)).set j (some z)) m1) (D.at r)
theorem ds_par {i j : Nat} {x y : Str} {tx : XA} {px py pt : Pos} {kt k2 pt2} (hc : X.calm = true) (hN : X.N.Nodup) (hi : X.N[i]? = some x) (hj : X.N[j]? = some y) (hij : i ≠ j)
    (hx : X.env.scope.names.lookup x = some .local) (hy : X.env.scope.names.lookup y = some .local) (ha : DA X W [a, b] tx)
    (hw : swappedStores [.Tuple [.Name x px, .Name y py] kt pt] (.Tuple [a, b] k2 pt2) X.env = pure (some [x, y]))
    (hs : swapsWithSole [.Tuple [.Name x px, .Name y py] kt pt] (.Tuple [a, b] k2 pt2) pos.line X.env = pure false := by rfl) :
    DS X W (.Assign [.Tuple [.Name x px, .Name y py] kt pt] (.Tuple [a, b] k2 pt2) pos) (xPar i j tx) := ⟨fun {G r m σ H D E} rs rh hx' f =>
  ss_of (ps_par hc hN hi hj hij hx hy sa_pa hw hs) (ha.run rs rh hx' (fun vs ys G1 m1 H1 e1 rh1 rv1 ⟨y1, z1, q, q2⟩ => by
    subst q
    obtain ⟨v, w, rfl, r1, r2⟩ := rvs2 rv1
    exact ⟨v, w, rfl, f.nx _ _ G1 m1 H1 e1 (((rs.mono e1).set r1 i).set r2 j) rh1 q2⟩) (f.cx rs))⟩
/-- del xs[i] -/
abbrev xDel (to ti : XE) : XS := fun D r m => to r m (fun y m1 => ti r m1 (fun z m2 => ∃ p ys k j, y = .l p ∧ z = .d (.int k) ∧ m2 p = some (.lst ys) ∧ -(2 ^ 63) ≤ k ∧ k < 2 ^ 63 ∧ seqIndex? k ys.length = some j ∧ D.nx r (mu m2 p (.lst (ys.eraseIdx j)))) (D.at r)) (D.at r)
theorem ds_del {tpos : Pos} (ho : DE X W o to) (hi : DE X W i ti) : DS X W (.Delete [.Subscript o i tpos] pos) (xDel to ti) := ⟨fun {G r m σ H D E} rs rh hx f =>
  ss_of (ps_delL se_pe se_pe) (ho.run rs rh hx (fun v y G1 m1 H1 e1 rh1 rv1 q1 =>
    hi.run (rs.mono e1) rh1 q1 (fun w z G2 m2 H2 e2 rh2 rv2 ⟨p, ys, k, j, q3, q4, q5, q6, q7, q8, q9⟩ => by
      subst q3 q4
      cases rv1.loc
      obtain ⟨ws, e5, r5⟩ := rh2.lst q5
      exact ⟨p, ws, k, j, rfl, rv2.int, e5, q6, q7, by rw [r5.length]; exact q8, f.nx _ _ G2 _ _ (e1.trans e2) (rs.mono (e1.trans e2)) (rh2.write q5 (.lst (RVs.eraseIdx j r5))) q9⟩) ((f.mono e1).cx (rs.mono e1))) (f.cx rs))⟩
/-- o.f = e -/
abbrev xSetF (K : PySem.W.Frag) (to tv : XE) (fn : Str) : XS := fun D r m => tv r m (fun y m1 => to r m1 (fun z m2 => ∃ p C dx gs, z = .l p ∧ m2 p = some (.ins C dx gs) ∧ Cls K C ∧ NoAttr K C fn ∧ gs.length < 1000 ∧ D.nx r (mu m2 p (.ins C dx (putY fn y gs)))) (D.at r)) (D.at r)
theorem RF.put {G : Hp} {f : Str} {v : V} {y : Y} (h : RV K G v y) : ∀ {fs : List (Str × V)} {gs : List (Str × Y)}, RF K G fs gs → RF K G (putF f v fs) (putY f y gs)
  | _, _, .nil => .cons ⟨rfl, h⟩ .nil
  | (a, _) :: _, (b, _) :: _, .cons ⟨h1, h2⟩ t => by
    have h1' : a = b := h1
    subst h1'
    show RF K G (if a = f then _ else _) (if a = f then _ else _)
    by_cases q : a = f
    · rw [if_pos q, if_pos q]; exact .cons ⟨rfl, h⟩ t
    · rw [if_neg q, if_neg q]; exact .cons ⟨rfl, h2⟩ (RF.put h t)
theorem ds_setF {fn : Str} {pos' : Pos} (ho : DE X W o to) (hv : DE X W e t) (hs : swapsWith e (some (.Attribute o fn pos')) pos.line X.env = pure false := by rfl) : DS X W (.Assign [.Attribute o fn pos'] e pos) (xSetF X.K to t fn) := ⟨fun {G r m σ H D E} rs rh hx f =>
  ss_of (ps_fld se_pe se_pe hs) (hv.run rs rh hx (fun v y G1 m1 H1 e1 rh1 rv1 q1 =>
    ho.run (rs.mono e1) rh1 q1 (fun w z G2 m2 H2 e2 rh2 rv2 ⟨p, C, dx, gs, q3, q4, q5, q6, q7, q8⟩ => by
      subst q3
      obtain ⟨fs, e5, r5⟩ := rh2.ins q4
      exact ⟨p, C, dx, fs, rv2.loc, e5, q5, q6, by rw [r5.length]; exact q7, f.nx _ _ G2 _ _ (e1.trans e2) (rs.mono (e1.trans e2)) (rh2.write q4 (.ins (RF.put (rv1.mono e2) r5))) q8⟩) ((f.mono e1).cx (rs.mono e1))) (f.cx rs))⟩
/-- name op= e on ints -/
abbrev xAug (i : Nat) (t : XE) (g : Int → Int → Int) : XS := fun D r m => ∃ j, r[i]? = some (some (.d (.int j))) ∧ t r m (fun y m1 => ∃ k, y = .d (.int k) ∧ D.nx (r.set i (some (.d (.int (g j k))))) m1) (D.at r)
theorem ds_aug {i : Nat} {x : Str} {op : Operator} {gg : Int → Int → Int} {pos' : Pos} (hN : X.N.Nodup) (hi : X.N[i]? = some x) (hx : Loc X.env.scope x) (he : DE X W e t) (ho : PIp X op (ipI gg)) (hf : X.fn x = true ∨ X.env.scope.names.lookup x = some .local := by first | exact .inl rfl | exact .inr rfl | assumption) :
    DS X W (.AugAssign (.Name x pos') op e pos) (xAug i t gg) := ⟨fun {G r m σ H D E} rs rh ⟨j, q1, q2⟩ f => by
  obtain ⟨w, e1, rv⟩ := rs.get q1
  cases rv.int
  exact ss_of (ps_aug hN hi hx se_pe ho hf) ⟨.int j, e1, he.run rs rh q2 (fun v y G1 m1 H1 e2 rh1 rv1 ⟨k, q3, q4⟩ => by
    subst q3
    exact ⟨j, k, rfl, rv1.int, f.nx _ _ G1 m1 H1 e2 ((rs.mono e2).set (.d (.int _)) i) rh1 q4⟩) (f.cx rs)⟩⟩
end
end Dl
/-! D7: what is walked; for; list comprehensions. -/
namespace Dl
open PySem PySem.Spec PyProof.Rows L2 Evl

/-- a walk on data: how many turns, the item of a turn, what the store must keep -/
structure Wk where
  n : Nat
  itm : Nat → Mu → (Y → Mu → Prop) → Prop
  src : Mu → Prop
abbrev XI := Ro → Mu → (Wk → Mu → Prop) → XP → Prop
structure JOk (K : PySem.W.Frag) (J : It) (k : Wk) (G : Hp) : Prop where
  go : ∀ i m G2 H, Ex G G2 → Rh K G2 m H → k.src m → i < k.n → J.go i H
  yld : ∀ i m G2 H x H', Ex G G2 → Rh K G2 m H → k.src m → i < k.n → J.yld i H x H' → ∀ F Q, k.itm i m F → CvE K G2 F Q → Q x H'
  stop : ∀ m G2 H, Ex G G2 → Rh K G2 m H → k.src m → J.stop k.n H
theorem JOk.mono {K : PySem.W.Frag} {J : It} {k : Wk} {G G' : Hp} (e : Ex G G') (j : JOk K J k G) : JOk K J k G' :=
  ⟨fun i m G2 H e1 => j.go i m G2 H (e.trans e1), fun i m G2 H x H' e1 => j.yld i m G2 H x H' (e.trans e1), fun m G2 H e1 => j.stop m G2 H (e.trans e1)⟩
structure DI (X : Cx) (W : WX) (tg it : Expr) (t : XI) : Prop where
  run : ∀ {G : Hp} {r : Ro} {m : Mu} {σ : L2.St} {H : Hp} {F : Wk → Mu → Prop} {P : XP} {R : It → Hp → Prop}, Rs X.K G σ r → Rh X.K G m H → t r m F P →
    (∀ J k G' m' H', Ex G G' → Rh X.K G' m' H' → JOk X.K J k G' → F k m' → R J H') → CvX X.K G P (WEx W σ) → SI X tg it σ H R

section
variable {X : Cx} {W : WX} {tg e e2 : Expr} {pos : Pos} {t : XE} {ta : XA} {K : PySem.W.Frag}
theorem si_seq {σ : L2.St} {H : Hp} {R : It → Hp → Prop} (h : SE X e σ H fun x H1 => ∃ a, x = .ref a ∧ ((∃ xs, SqL X.K H1 a xs ∧ R (Itl X.K a) H1) ∨ ∃ xs, SqT X.K H1 a xs ∧ R (Itt X.K a) H1)) : SI X tg e σ H R := fun pins s I => by
  refine thn (h pins s I) fun v s1 ⟨x, H1, J, r1, a, ex, alt⟩ => ?_
  subst ex
  cases r1
  have fresh1 : ∀ b ∈ [s1.heap.objs.size], FpOk X pins H1 b := fun b hb => by
    obtain rfl : b = s1.heap.objs.size := by simpa using hb
    exact J.fpOk (Nat.le_refl _) (J.hok.fresh (Nat.le_refl _))
  rcases alt with ⟨xs, hq, q⟩ | ⟨xs, hq, q⟩
  · obtain ⟨its, rv, pl, hz⟩ := J.list hq
    exact wpAny_pyIter_list pl.isList ⟨_, [s1.heap.objs.size], _, _, H1, rfl, J.kept (t' := s1.toks) (fun b o z => Heap.get?_push_of_some _ z), turn_list a _, ⟨_, Heap.get?_push_size _ rfl, rfl, rfl⟩, fresh1, q⟩
  · obtain ⟨its, rv, pl, hz⟩ := J.tuple hq
    exact wpAny_pyIter_tuple (show s1.heap.IsTuple a its.toArray from pl) ⟨_, [s1.heap.objs.size], _, _, H1, rfl, J.kept (t' := s1.toks) (fun b o z => Heap.get?_push_of_some _ z), turn_tuple a _, ⟨_, Heap.get?_push_size _ rfl, rfl, rfl⟩, fresh1, q⟩
abbrev wkSeq (m1 : Mu) (y : Y) (ys : List Y) : Wk := ⟨ys.length, fun i m F => ∃ z, ys[i]? = some z ∧ F z m, fun m => ∀ p, y = .l p → m p = m1 p⟩
/-- over a list or a tuple -/
abbrev xiSeq (t : XE) : XI := fun r m F P => t r m (fun y m1 => ∃ ys, SqY m1 y ys ∧ F (wkSeq m1 y ys) m1) P
theorem jok_L {G : Hp} {a : Addr} {y : Y} {ys : List Y} {m1 : Mu} (h : ∀ m G2 H, Ex G G2 → Rh K G2 m H → (∀ p, y = .l p → m p = m1 p) → ∃ vs, SqL K H a vs ∧ RVs K G2 vs ys) : JOk K (Itl K a) (wkSeq m1 y ys) G where
  go := fun i m G2 H e rh s hi => by
    obtain ⟨vs, h1, h2⟩ := h m G2 H e rh s
    have hi' : i < vs.length := by rw [h2.length]; exact hi
    exact ⟨vs, vs[i], h1, by simp [hi']⟩
  yld := fun i m G2 H x H' e rh s hi q F Q f cv => by
    obtain ⟨vs, h1, h2⟩ := h m G2 H e rh s
    obtain ⟨rfl, q2⟩ := q
    obtain ⟨z, hz, f⟩ := f
    obtain ⟨w, hw, rw⟩ := RVs.get h2 hz
    have e1 := q2 vs h1
    rw [hw] at e1; cases e1
    exact cv.at rh rw f
  stop := fun m G2 H e rh s => by
    obtain ⟨vs, h1, h2⟩ := h m G2 H e rh s
    exact ⟨vs, h1, by rw [h2.length]; exact Nat.le_refl _⟩
theorem jok_T {G : Hp} {a : Addr} {y : Y} {ys : List Y} {m1 : Mu} (h : ∀ m G2 H, Ex G G2 → Rh K G2 m H → (∀ p, y = .l p → m p = m1 p) → ∃ vs, SqT K H a vs ∧ RVs K G2 vs ys) : JOk K (Itt K a) (wkSeq m1 y ys) G where
  go := fun i m G2 H e rh s hi => by
    obtain ⟨vs, h1, h2⟩ := h m G2 H e rh s
    have hi' : i < vs.length := by rw [h2.length]; exact hi
    exact ⟨vs, vs[i], h1, by simp [hi']⟩
  yld := fun i m G2 H x H' e rh s hi q F Q f cv => by
    obtain ⟨vs, h1, h2⟩ := h m G2 H e rh s
    obtain ⟨rfl, q2⟩ := q
    obtain ⟨z, hz, f⟩ := f
    obtain ⟨w, hw, rw⟩ := RVs.get h2 hz
    have e1 := q2 vs h1
    rw [hw] at e1; cases e1
    exact cv.at rh rw f
  stop := fun m G2 H e rh s => by
    obtain ⟨vs, h1, h2⟩ := h m G2 H e rh s
    exact ⟨vs, h1, by rw [h2.length]; exact Nat.le_refl _⟩
theorem di_seq (h : DE X W e t) : DI X W tg e (xiSeq t) := ⟨fun {G r m σ H F P R} rs rh hx cr cx =>
  si_seq (h.run rs rh hx (fun v y G1 m1 H1 e1 rh1 rv1 ⟨ys, hs, f⟩ => by
    cases rv1 with
    | d q =>
      cases q with
      | lst s q =>
        cases hs
        exact ⟨_, rfl, .inl ⟨_, .inl (rd_sub rh1 s), cr _ _ G1 m1 H1 e1 rh1 (jok_L fun m G2 H e2 rh2 _ => ⟨_, .inl (rd_sub rh2 (ex_rd e2 s)), RVs.mono e2 q.rvs⟩) f⟩⟩
      | tup s q =>
        cases hs
        exact ⟨_, rfl, .inr ⟨_, ex_t rh1.sub s, cr _ _ G1 m1 H1 e1 rh1 (jok_T fun m G2 H e2 rh2 _ => ⟨_, ex_t (e2.trans rh2.sub) s, RVs.mono e2 q.rvs⟩) f⟩⟩
      | _ => exact hs.elim
    | l p =>
      rcases hs with hs | hs
      · obtain ⟨ws, e5, q⟩ := rh1.lst hs
        exact ⟨_, rfl, .inl ⟨ws, SqL.of e5, cr _ _ G1 m1 H1 e1 rh1 (jok_L fun m G2 H e2 rh2 sr => by
          obtain ⟨ws2, e6, q2⟩ := rh2.lst ((sr p rfl).trans hs)
          exact ⟨ws2, SqL.of e6, q2⟩) f⟩⟩
      · obtain ⟨ws, e5, q⟩ := rh1.tup hs
        exact ⟨_, rfl, .inr ⟨ws, SqT.of e5, cr _ _ G1 m1 H1 e1 rh1 (jok_T fun m G2 H e2 rh2 sr => by
          obtain ⟨ws2, e6, q2⟩ := rh2.tup ((sr p rfl).trans hs)
          exact ⟨ws2, SqT.of e6, q2⟩) f⟩⟩
    | v x => exact hs.elim
    | r s q =>
      cases hs
      exact ⟨_, rfl, .inl ⟨_, ex_l rh1.sub s, cr _ _ G1 m1 H1 e1 rh1 (jok_L fun m G2 H e2 rh2 _ => ⟨_, ex_l (e2.trans rh2.sub) s, RVs.mono e2 q.rvs⟩) f⟩⟩) cx)⟩
abbrev wkRange (lo : Int) (n : Nat) : Wk := ⟨n, fun i m F => F (.d (.int (lo + i))) m, fun _ => True⟩
theorem jok_R {G : Hp} {lo : Int} {n : Nat} : JOk K (Itr lo n) (wkRange lo n) G where
  go := fun i m G2 H _ _ _ hi => hi
  yld := fun i m G2 H x H' e rh s hi q F Q f cv => by
    obtain ⟨rfl, rfl⟩ := q
    exact cv.at rh (.d (.int _)) f
  stop := fun _ _ _ _ _ _ => Nat.le_refl _
abbrev xiRange1 (ta : XA) : XI := fun r m F P => ta r m (fun ys m1 => ∃ j : Int, ys = [.d (.int j)] ∧ -100000000 ≤ j ∧ j ≤ 100000000 ∧ F (wkRange 0 j.toNat) m1) P
theorem di_range1 {p : Pos} (hg : Gl X "range") (hm : X.mg "range" = none) (ha : DA X W [e] ta) (hs : starEach [e] X.env = [(false, eval e X.env)] := by rfl) : DI X W tg (.Call (.Name "range" p) [e] [] pos) (xiRange1 ta) := ⟨fun {G r m σ H F P R} rs rh hx cr cx =>
  si_of (pi_range1 hg hm sa_pa hs) (ha.run rs rh hx (fun vs ys G1 m1 H1 e1 rh1 rv1 ⟨j, q1, q2, q3, q4⟩ => by
    subst q1
    obtain ⟨v, rfl, r1⟩ := rvs1 rv1
    cases r1.int
    exact ⟨j, rfl, by omega, by omega, cr _ _ G1 m1 H1 e1 rh1 jok_R q4⟩) cx)⟩
abbrev xiRange2 (ta : XA) : XI := fun r m F P => ta r m (fun ys m1 => ∃ i j : Int, ys = [.d (.int i), .d (.int j)] ∧ (-100000000 ≤ i ∧ i ≤ 100000000 ∧ -100000000 ≤ j ∧ j ≤ 100000000) ∧ F (wkRange i (j - i).toNat) m1) P
theorem di_range2 {p : Pos} (hg : Gl X "range") (hm : X.mg "range" = none) (ha : DA X W [e, e2] ta) (hs : starEach [e, e2] X.env = [(false, eval e X.env), (false, eval e2 X.env)] := by rfl) (hs2 : starEach [e2] X.env = [(false, eval e2 X.env)] := by rfl) :
    DI X W tg (.Call (.Name "range" p) [e, e2] [] pos) (xiRange2 ta) := ⟨fun {G r m σ H F P R} rs rh hx cr cx =>
  si_of (pi_range2 hg hm sa_pa hs hs2) (ha.run rs rh hx (fun vs ys G1 m1 H1 e1 rh1 rv1 ⟨i, j, q1, q2, q4⟩ => by
    subst q1
    obtain ⟨v, w, rfl, r1, r2⟩ := rvs2 rv1
    cases r1.int; cases r2.int
    exact ⟨i, j, rfl, by omega, cr _ _ G1 m1 H1 e1 rh1 jok_R q4⟩) cx)⟩
/-- a list that is read, at each state that keeps it -/
abbrev LsR (m : Mu) : Y → List Y → Prop
  | .d (.list ds), ys => ys = ds.map Y.d
  | .r ds, ys => ys = ds.map Y.d
  | .l p, ys => m p = some (.lst ys)
  | _, _ => False
theorem lsR_ok {G H1 : Hp} {v : V} {y : Y} {ys : List Y} {m1 : Mu} (rh : Rh K G m1 H1) (rv : RV K G v y) (h : LsR m1 y ys) : ∃ a, v = .ref a ∧ (∃ vs, SqL K H1 a vs) ∧
    ∀ m G2 H, Ex G G2 → Rh K G2 m H → (∀ p, y = .l p → m p = m1 p) → ∃ vs, SqL K H a vs ∧ RVs K G2 vs ys := by
  cases rv with
  | d q =>
    cases q with
    | lst s q => cases h; exact ⟨_, rfl, ⟨_, .inl (rd_sub rh s)⟩, fun m G2 H e2 rh2 _ => ⟨_, .inl (rd_sub rh2 (ex_rd e2 s)), RVs.mono e2 q.rvs⟩⟩
    | _ => exact h.elim
  | l p =>
    obtain ⟨ws, e5, q⟩ := rh.lst h
    exact ⟨_, rfl, ⟨ws, SqL.of e5⟩, fun m G2 H e2 rh2 sr => by
      obtain ⟨ws2, e6, q2⟩ := rh2.lst ((sr p rfl).trans h)
      exact ⟨ws2, SqL.of e6, q2⟩⟩
  | v x => exact h.elim
  | r s q => cases h; exact ⟨_, rfl, ⟨_, ex_l rh.sub s⟩, fun m G2 H e2 rh2 _ => ⟨_, ex_l (e2.trans rh2.sub) s, RVs.mono e2 q.rvs⟩⟩
abbrev wkEnum (m1 : Mu) (y : Y) (ys : List Y) : Wk := ⟨ys.length, fun i m F => ∃ z, ys[i]? = some z ∧ mkT [.d (.int (i : Nat)), z] m F, fun m => ∀ p, y = .l p → m p = m1 p⟩
abbrev xiEnum (ta : XA) : XI := fun r m F P => ta r m (fun ys m1 => ∃ y zs, ys = [y] ∧ LsR m1 y zs ∧ F (wkEnum m1 y zs) m1) P
theorem di_enum {p tpos : Pos} {elts : List Expr} {kk : Nat} (hg : Gl X "enumerate") (hm : X.mg "enumerate" = none) (ha : DA X W [e] ta) (hs : starEach [e] X.env = [(false, eval e X.env)] := by rfl) :
    DI X W (.Tuple elts kk tpos) (.Call (.Name "enumerate" p) [e] [] pos) (xiEnum ta) := ⟨fun {G r m σ H F P R} rs rh hx cr cx =>
  si_of (pi_enum hg hm sa_pa hs) (ha.run rs rh hx (fun vs ys G1 m1 H1 e1 rh1 rv1 ⟨y, zs, q1, q2, q3⟩ => by
    subst q1
    obtain ⟨v, rfl, r1⟩ := rvs1 rv1
    obtain ⟨a, rfl, ⟨vs, hv⟩, hk⟩ := lsR_ok rh1 r1 q2
    refine ⟨a, vs, rfl, hv, cr _ _ G1 m1 H1 e1 rh1 ⟨fun i m G2 H e rh s hi => ?_, fun i m G2 H x H' e rh s hi q F Q f cv => ?_, fun m G2 H e rh s => ?_⟩ q3⟩
    · obtain ⟨vs, h1, h2⟩ := hk m G2 H e rh s
      have hi' : i < vs.length := by rw [h2.length]; exact hi
      exact ⟨vs, vs[i], h1, by simp [hi']⟩
    · obtain ⟨vs, h1, h2⟩ := hk m G2 H e rh s
      obtain ⟨T, x0, rfl, hT, rfl, q2⟩ := q
      obtain ⟨z, hz, f⟩ := f
      obtain ⟨w, hw, rw⟩ := RVs.get h2 hz
      have e1 := q2 vs h1
      rw [hw] at e1; cases e1
      exact mkT_ok rh (.cons (.d (.int _)) (.cons rw .nil)) hT f cv
    · obtain ⟨vs, h1, h2⟩ := hk m G2 H e rh s
      exact ⟨vs, h1, by rw [h2.length]; exact Nat.le_refl _⟩) cx)⟩
end

/-! ### for -/
section
variable {X : Cx} {W : WX} {tg e it : Expr} {body : List Stmt} {pos : Pos} {t : XE} {ti : XI} {g : XG} {tb : XS}
abbrev xFor (ti : XI) (g : XG) (tb : XS) : XS := fun D r m => ti r m (fun k m1 => ∃ Z : Nat → Ro → Mu → Prop, Z 0 r m1 ∧ ∀ i r m, i ≤ k.n → Z i r m → k.src m ∧
  (i < k.n → k.itm i m (fun y m' => g y r m' (fun r2 m2 => tb { D with nx := Z (i + 1), ct := Z (i + 1), bk := D.nx } r2 m2))) ∧ (i = k.n → D.nx r m)) (D.at r)
theorem ds_for (hp : PassesOwn (model X.prog X.w) X.A X.env X.xe) (hc : X.calm = true) (hi : DI X W tg it ti) (hg : DG X tg g) (hb : DSs X W body tb) (hs : ∀ x, foldedSetIterable it X.env x = pure x := by intro _; rfl) :
    DS X W (.For tg it body [] pos) (xFor ti g tb) := ⟨fun {G r m σ H D E} rs rh hx f =>
  ss_of (ps_for hp hc si_pi sg_pg sss_pss hs) (hi.run rs rh hx (fun J k G1 m1 H1 e1 rh1 jk ⟨Z, z0, zs⟩ => by
    refine ⟨fun i n σ' H' => n = k.n - i ∧ i ≤ k.n ∧ ∃ G' r' m', Ex G1 G' ∧ Rs X.K G' σ' r' ∧ Rh X.K G' m' H' ∧ Z i r' m', ⟨k.n, by simp, Nat.zero_le _, G1, r, m1, Ex.refl _, rs.mono e1, rh1, z0⟩, ?_⟩
    rintro i n σ' H' ⟨rfl, hi', G', r', m', e2, rs2, rh2, z⟩
    obtain ⟨z1, z2, z3⟩ := zs i r' m' hi' z
    by_cases hlt : i < k.n
    · refine .inr ⟨jk.go i m' G' H' e2 rh2 z1 hlt, fun σ3 H3 => ∃ G3 r3 m3, Ex G1 G3 ∧ Rs X.K G3 σ3 r3 ∧ Rh X.K G3 m3 H3 ∧ Z (i + 1) r3 m3, fun σ3 H3 q => ⟨k.n - (i + 1), by omega, rfl, by omega, q⟩, fun x H3 hy => ?_⟩
      refine jk.yld i m' G' H' x H3 e2 rh2 z1 hlt hy _ (fun x H3 => SG X tg x σ' H3 _) (z2 hlt) fun v y G3 m3 H4 e3 rh3 rv3 q3 => ?_
      refine hg.run (rs2.mono e3) rh3 rv3 q3 fun σ5 r5 G5 m5 H5 e5 rs5 rh5 q5 => ?_
      have up : Ex G G5 := ((e1.trans e2).trans e3).trans e5
      have up1 : Ex G1 G5 := (e2.trans e3).trans e5
      exact hb.run rs5 rh5 q5 ⟨fun σ6 r6 G6 m6 H6 e6 rs6 rh6 q6 => ⟨G6, r6, m6, up1.trans e6, rs6, rh6, q6⟩, (f.mono up).rt, (f.mono up).nx, fun σ6 r6 G6 m6 H6 e6 rs6 rh6 q6 => ⟨G6, r6, m6, up1.trans e6, rs6, rh6, q6⟩, (f.mono up).ex⟩
    · have hn : i = k.n := by omega
      subst hn
      exact .inl ⟨jk.stop m' G' H' e2 rh2 z1, f.nx _ _ G' m' H' (e1.trans e2) rs2 rh2 (z3 rfl)⟩) (f.cx rs))⟩
abbrev xWhile (c : XT) (tb : XS) : XS := fun D r m => ∃ Z : Nat → Ro → Mu → Prop, (∃ n, Z n r m) ∧ ∀ n r m, Z n r m → c r m (fun k m1 => if k = true then tb { D with nx := fun r' m' => ∃ n', n' < n ∧ Z n' r' m', ct := fun r' m' => ∃ n', n' < n ∧ Z n' r' m', bk := D.nx } r m1 else D.nx r m1) (D.at r)
theorem ds_while {c : Expr} {tc : XT} (hp : PassesOwn (model X.prog X.w) X.A X.env X.xe) (hc : DT X W c tc) (hb : DSs X W body tb) : DS X W (.While c body [] pos) (xWhile tc tb) := ⟨fun {G r m σ H D E} rs rh ⟨Z, ⟨n0, z0⟩, zs⟩ f =>
  ss_of (ps_while hp st_pt sss_pss) ⟨fun n σ' H' => ∃ G' r' m', Ex G G' ∧ Rs X.K G' σ' r' ∧ Rh X.K G' m' H' ∧ Z n r' m', ⟨n0, G, r, m, Ex.refl _, rs, rh, z0⟩, fun n σ' H' ⟨G', r', m', e1, rs1, rh1, z⟩ =>
    hc.run rs1 rh1 (zs n r' m' z) (fun k G2 m2 H2 e2 rh2 q => by
      cases k with
      | true =>
        refine ⟨fun σ3 H3 => ∃ n', n' < n ∧ ∃ G3 r3 m3, Ex G G3 ∧ Rs X.K G3 σ3 r3 ∧ Rh X.K G3 m3 H3 ∧ Z n' r3 m3, fun σ3 H3 ⟨n', h, q⟩ => ⟨n', h, q⟩, ?_⟩
        have up : Ex G G2 := e1.trans e2
        exact hb.run (rs1.mono e2) rh2 q ⟨fun σ6 r6 G6 m6 H6 e6 rs6 rh6 ⟨n', h, q6⟩ => ⟨n', h, G6, r6, m6, up.trans e6, rs6, rh6, q6⟩, (f.mono up).rt, (f.mono up).nx, fun σ6 r6 G6 m6 H6 e6 rs6 rh6 ⟨n', h, q6⟩ => ⟨n', h, G6, r6, m6, up.trans e6, rs6, rh6, q6⟩, (f.mono up).ex⟩
      | false => exact f.nx _ _ G2 m2 H2 (e1.trans e2) (rs1.mono e2) rh2 q) ((f.mono e1).cx rs1)⟩⟩
end

/-! ### list comprehensions -/
/-- a target of a comprehension: it touches its own slots alone -/
def DGw (K : PySem.W.Frag) (vs : List Nat) (g : TG) (x : XG) : Prop := ∀ {G : Hp} {r : Ro} {m : Mu} {σ : L2.St} {H : Hp} {v : V} {y : Y} {F : Ro → Mu → Prop} {Q : L2.St → Hp → Prop}, Rs K G σ r → Rh K G m H → RV K G v y → x y r m F →
  (∀ σ' r' G' m' H', Ex G G' → Rs K G' σ' r' → Rh K G' m' H' → wipe σ' vs = wipe σ vs → F r' m' → Q σ' H') → g v σ H Q
def DGws (K : PySem.W.Frag) (vs : List Nat) (g : TGs) (x : XGs) : Prop := ∀ {G : Hp} {r : Ro} {m : Mu} {σ : L2.St} {H : Hp} {ws : List V} {ys : List Y} {F : Ro → Mu → Prop} {Q : L2.St → Hp → Prop}, Rs K G σ r → Rh K G m H → RVs K G ws ys → x ys r m F →
  (∀ σ' r' G' m' H', Ex G G' → Rs K G' σ' r' → Rh K G' m' H' → wipe σ' vs = wipe σ vs → F r' m' → Q σ' H') → g ws σ H Q
theorem wipe_set {i : Nat} {o : Option V} : ∀ {vs : List Nat} (σ : L2.St), i ∈ vs → wipe (σ.set i o) vs = wipe σ vs
  | [], _, h => absurd h (by simp)
  | v :: vs, σ, h => by
    show (wipe (σ.set i o) vs).set v none = (wipe σ vs).set v none
    by_cases z : i ∈ vs
    · rw [wipe_set σ z]
    · have e : i = v := by simpa [z] using h
      subst e
      have comm : ∀ (us : List Nat), i ∉ us → wipe (σ.set i o) us = (wipe σ us).set i o := by
        intro us
        induction us with
        | nil => intro _; rfl
        | cons w us ih =>
          intro hn
          simp only [List.mem_cons, not_or] at hn
          show (wipe (σ.set i o) us).set w none = ((wipe σ us).set w none).set i o
          rw [ih hn.2, List.set_comm _ _ hn.1]
      rw [comm vs z, List.set_set]
section
variable {K : PySem.W.Frag} {vs : List Nat} {g : TG} {gs : TGs} {x : XG} {xs : XGs}
theorem dgw_name {i : Nat} (h : i ∈ vs) : DGw K vs (gName i) (xgName i) := fun {G r m σ H v y F Q} rs rh rv hx k => k _ _ G m H (Ex.refl G) (rs.set rv i) rh (wipe_set σ h) hx
theorem dgw_nil : DGws K vs gNil xgNil := fun {G r m σ H ws ys F Q} rs rh rv ⟨e, h⟩ k => by
  subst e; cases rv
  exact ⟨rfl, k _ _ G m H (Ex.refl G) rs rh rfl h⟩
theorem dgw_cons (h1 : DGw K vs g x) (h2 : DGws K vs gs xs) : DGws K vs (gCons g gs) (xgCons x xs) := fun {G r m σ H ws ys F Q} rs rh rv ⟨y, zs, e1, h⟩ k => by
  subst e1
  cases rv with
  | cons r1 r2 => exact ⟨_, _, rfl, h1 rs rh r1 h fun σ1 r3 G1 m1 H1 e1 rs1 rh1 w1 q => h2 rs1 rh1 (RVs.mono e1 r2) q fun σ2 r4 G2 m2 H2 e2 rs2 rh2 w2 q2 => k _ _ G2 m2 H2 (e1.trans e2) rs2 rh2 (w2.trans w1) q2⟩
theorem dgw_tup {n : Nat} (h : DGws K vs gs xs) : DGw K vs (gTup K n gs) (xgTup n xs) := fun {G r m σ H v y F Q} rs rh rv ⟨ys, h1, h2, h3, h4, h5, h6⟩ k => by
  have z : ∃ p us, v = .ref p ∧ SqT K H p us ∧ RVs K G us ys := by
    cases rv with
    | d q =>
      cases q with
      | tup s q => cases h1; exact ⟨_, _, rfl, ex_t rh.sub s, q.rvs⟩
      | lst s q => exact absurd rfl (h2 _)
      | _ => exact h1.elim
    | l p =>
      obtain ⟨ws, e, q⟩ := rh.tup (h3 p rfl)
      exact ⟨p, ws, rfl, SqT.of e, q⟩
    | v x => exact h1.elim
    | r s q => exact absurd rfl (h4 _)
  obtain ⟨p, us, rfl, s1, q⟩ := z
  exact ⟨p, us, rfl, s1, by rw [q.length]; exact h5, h rs rh q h6 k⟩
theorem Rs.wipe {G : Hp} : ∀ {σ : L2.St} {r : Ro} (vs : List Nat), Rs K G σ r → Rs K G (L2.wipe σ vs) (vs.foldr (fun v r => r.set v none) r)
  | _, _, [], h => h
  | _, _, v :: vs, h => Rs.wipe1 v (Rs.wipe vs h)
end
/-- the hand layer's readings of a data transformer, whatever the block -/
def TEof (K : PySem.W.Frag) (W : WX) (t : XE) : TE := fun σ H Q => ∃ G r m F P, Rs K G σ r ∧ Rh K G m H ∧ t r m F P ∧ CvE K G F Q ∧ CvX K G P (WEx W σ)
def TTof (K : PySem.W.Frag) (W : WX) (t : XT) : TT := fun σ H Q => ∃ G r m F P, Rs K G σ r ∧ Rh K G m H ∧ t r m F P ∧ CvT K G F Q ∧ CvX K G P (WEx W σ)
abbrev W0 : WX := fun _ _ _ _ => False
abbrev P0 : XP := fun _ _ _ => False
abbrev wipeR (r : Ro) (vs : List Nat) : Ro := vs.foldr (fun v r => r.set v none) r
abbrev xYes : XT := fun _ m F _ => F true m
/-- the new list at D while it grows -/
abbrev xLcW (fin : Addr → List Y → Mu → (Y → Mu → Prop) → Prop) (ti : XI) (g : XG) (tt : XT) (te : XE) (vs : List Nat) : XE := fun r m F P => ti r m (fun k m1 => ∀ D, m1 D = none → ∃ Z : Nat → List Y → Mu → Prop, Z 0 [] (mu m1 D (.lst [])) ∧
  ∀ i acc M, i ≤ k.n → Z i acc M → M D = some (.lst acc) ∧ k.src M ∧ (i < k.n → k.itm i M (fun y M1 => g y (wipeR r vs) M1 (fun r2 M2 => tt r2 M2 (fun b M3 =>
    if b = true then te r2 M3 (fun z M4 => M4 D = some (.lst acc) ∧ acc.length < 10000 ∧ Z (i + 1) (acc ++ [z]) (mu M4 D (.lst (acc ++ [z])))) P0 else Z (i + 1) acc M3) P0))) ∧ (i = k.n → fin D acc M F)) P
abbrev finM : Addr → List Y → Mu → (Y → Mu → Prop) → Prop := fun D _ M F => F (.l D) M
abbrev finD : Addr → List Y → Mu → (Y → Mu → Prop) → Prop := fun D acc M F => ∃ ds, acc = ds.map Y.d ∧ F (.d (.list ds)) (fun b => if b = D then none else M b)
structure FinOk (fin : Addr → List Y → Mu → (Y → Mu → Prop) → Prop) : Prop where
  ok : ∀ {K : PySem.W.Frag} {G H : Hp} {M : Mu} {D : Addr} {acc : List Y} {F : Y → Mu → Prop} {Q : VK}, Rh K G M H → M D = some (.lst acc) → fin D acc M F → CvE K G F Q → Q (.ref D) H
theorem finM_ok : FinOk finM := ⟨fun {K G H M D acc F Q} rh hd h cv => cv.at rh (.l D) h⟩
theorem finD_ok : FinOk finD := ⟨fun {K G H M D acc F Q} rh hd ⟨ds, e, h⟩ cv => by
  subst e
  obtain ⟨G', e1, r1, v1⟩ := rh.frz hd
  exact cv _ _ G' _ H e1 r1 v1 h⟩
section
variable {X : Cx} {W : WX} {elt tg iter : Expr} {ifs : List Expr} {scope : Scope} {own : List (Str × Nat)} {pos : Pos} {ti : XI} {g : TG} {xg : XG} {tt : XT} {te : XE} {fin : Addr → List Y → Mu → (Y → Mu → Prop) → Prop}
theorem lc_read {σ : L2.St} {H : Hp} {vs : List Nat} {G : Hp} {r : Ro} {m : Mu} {F : Y → Mu → Prop} {P : XP} {Q : VK} (hf : FinOk fin) (hi : DI X W tg iter ti) (hw : DGw X.K vs g xg) (rs : Rs X.K G σ r) (rh : Rh X.K G m H) (hx : xLcW fin ti xg tt te vs r m F P) (cv : CvE X.K G F Q) (cx : CvX X.K G P (WEx W σ)) :
    tLc (SI X tg iter) g (TTof X.K W0 tt) (TEof X.K W0 te) vs σ H Q := by
  refine hi.run rs rh hx (fun J k G1 m1 H1 e1 rh1 jk hz D hD => ?_) cx
  obtain ⟨Z, z0, zs⟩ := hz D (rh1.free hD).2
  refine ⟨fun i n H' => n = k.n - i ∧ i ≤ k.n ∧ ∃ G' acc M, Ex G1 G' ∧ Rh X.K G' M H' ∧ Z i acc M, ⟨k.n, by simp, Nat.zero_le _, G1, [], _, Ex.refl _, rh1.new hD (.lst .nil), z0⟩, ?_⟩
  rintro i n H' ⟨rfl, hi', G', acc, M, e2, rh2, z⟩
  obtain ⟨z1, z2, z3, z4⟩ := zs i acc M hi' z
  by_cases hlt : i < k.n
  · refine .inr ⟨jk.go i M G' H' e2 rh2 z2 hlt, fun H3 => ∃ G3 acc3 M3, Ex G1 G3 ∧ Rh X.K G3 M3 H3 ∧ Z (i + 1) acc3 M3, fun H3 q => ⟨k.n - (i + 1), by omega, rfl, by omega, q⟩, fun x H3 hy => ?_⟩
    refine jk.yld i M G' H' x H3 e2 rh2 z2 hlt hy _ (fun x H3 => g x (wipe σ vs) H3 _) (z3 hlt) fun v y G3 m3 H4 e3 rh3 rv3 q3 => ?_
    have rsw : Rs X.K G3 (wipe σ vs) (wipeR r vs) := Rs.wipe vs (rs.mono ((e1.trans e2).trans e3))
    refine hw rsw rh3 rv3 q3 fun σ5 r5 G5 m5 H5 e5 rs5 rh5 w5 q5 => ⟨?_, G5, r5, m5, _, P0, rs5, rh5, q5, fun b G6 m6 H6 e6 rh6 q6 => ?_, fun _ _ _ _ _ _ _ _ _ z => z⟩
    · rw [w5]
      have ww : ∀ (us : List Nat), (∀ x ∈ us, x ∈ vs) → wipe (wipe σ us) vs = wipe σ vs := by
        intro us
        induction us with
        | nil => intro _; rfl
        | cons a us ih => intro hu; exact (wipe_set _ (hu a (by simp))).trans (ih fun x hx => hu x (by simp [hx]))
      exact ww vs fun x hx => hx
    · have up : Ex G1 G6 := ((e2.trans e3).trans e5).trans e6
      cases b with
      | true =>
        refine ⟨G6, r5, m6, _, P0, rs5.mono e6, rh6, q6, fun u y G7 m7 H7 e7 rh7 rv7 ⟨q7, q8, q9⟩ => ?_, fun _ _ _ _ _ _ _ _ _ z => z⟩
        obtain ⟨ws, ew, rw⟩ := rh7.lst q7
        exact ⟨ws, ew, by rw [rw.length]; exact Nat.lt_of_lt_of_le q8 szl, G7, _, _, up.trans e7, rh7.write q7 (.lst (rw.app (.cons rv7 .nil))), q9⟩
      | false => exact ⟨G6, acc, m6, up, rh6, q6⟩
  · have hn : i = k.n := by omega
    subst hn
    exact .inl ⟨jk.stop M G' H' e2 rh2 z2, hf.ok rh2 z1 (z4 rfl) (cv.mono (e1.trans e2))⟩
abbrev Blk (X : Cx) (scope : Scope) (e : Cx → Prop) : Prop := ∀ (s : Shared) (H : Hp) (C : Addr) (cl : List (Str × Addr)) (fp : List Addr), e (X.blk s H scope (compEnvC scope cl C X.env) fp)
structure DTs (X : Cx) (ifs : List Expr) (t : XT) : Prop where
  run : PTs X ifs (TTof X.K W0 t)
theorem dts_nil : DTs X [] xYes := ⟨⟨fun pins s σ H Q I ⟨G, r, m, F, P, rs, rh, h, cv, cx⟩ => pts_nil.run pins s σ H Q I (cv true G m H (Ex.refl G) rh h)⟩⟩
theorem dts_one {c : Expr} (h : DT X W0 c tt) : DTs X [c] tt := ⟨⟨fun pins s σ H Q I ⟨G, r, m, F, P, rs, rh, q, cv, cx⟩ => (pts_one st_pt).run pins s σ H Q I (h.run rs rh q cv cx)⟩⟩
theorem teof_pe {e : Expr} (h : DE X W0 e te) : PE X e (TEof X.K W0 te) := ⟨fun pins s σ H Q I ⟨G, r, m, F, P, rs, rh, q, cv, cx⟩ => h.run rs rh q cv cx pins s I⟩
theorem de_lc (hf : FinOk fin) (hc : X.calm = true) (hN : X.N.Nodup) (hi : DI X W tg iter ti) (ok : BlkOk X.N X.env.scope scope own) (hg : Blk X scope fun X' => PG X' tg g) (hw : DGw X.K (own.map (·.2)) g xg) (ht : Blk X scope fun X' => DTs X' ifs tt) (he : Blk X scope fun X' => DE X' W0 elt te)
    (hs : ∀ x, foldedSetIterable iter X.env x = pure x := by intro _; rfl) : DE X W (.ListComp elt [⟨tg, iter, ifs, 0⟩] scope pos) (xLcW fin ti xg tt te (own.map (·.2))) := ⟨fun {G r m σ H F P Q} rs rh hx cv cx =>
  se_of (pe_lc hc hN si_pi ok hg (fun s H C cl fp => (ht s H C cl fp).run) (fun s H C cl fp => teof_pe (he s H C cl fp)) hs) (lc_read hf hi hw rs rh hx cv cx)⟩
/-- name = [..] -/
theorem ds_setLc {i : Nat} {y : Str} {py spos : Pos} (hf : FinOk fin) (hc : X.calm = true) (hN : X.N.Nodup) (hy : X.N[i]? = some y) (hyl : X.env.scope.names.lookup y = some .local)
    (hsw : swapsWith (.ListComp elt [⟨tg, iter, ifs, 0⟩] scope pos) (some (.Name y py)) spos.line X.env = pure true) (hi : DI X W tg iter ti) (ok : BlkOk X.N X.env.scope scope own) (hg : Blk X scope fun X' => PG X' tg g) (hw : DGw X.K (own.map (·.2)) g xg)
    (ht : Blk X scope fun X' => DTs X' ifs tt) (he : Blk X scope fun X' => DE X' W0 elt te) (hs : ∀ x, foldedSetIterable iter X.env x = pure x := by intro _; rfl) :
    DS X W (.Assign [.Name y py] (.ListComp elt [⟨tg, iter, ifs, 0⟩] scope pos) spos) (xAsg (xLcW fin ti xg tt te (own.map (·.2))) (xgName i)) := ⟨fun {G r m σ H D E} rs rh hx f =>
  ss_of (ps_setLc hc hN hy hyl hsw si_pi ok hg (fun s H C cl fp => (ht s H C cl fp).run) (fun s H C cl fp => teof_pe (he s H C cl fp)) hs)
    (lc_read hf hi hw rs rh hx (fun v z G1 m1 H1 e1 rh1 rv1 q => f.nx _ _ G1 m1 H1 e1 ((rs.mono e1).set rv1 i) rh1 q) (f.cx rs))⟩
end
end Dl
/-! D8: repr, sorted, methods, exceptions, a def by its body, the law's end. -/
namespace Dl
open PySem PySem.Spec PyProof.Rows L2 Evl

/-! ### what is read off as data -/
section
variable {X : Cx} {K : PySem.W.Frag} {G H : Hp} {m : Mu} {pins : List (Addr × Obj)} {σ : L2.St} {s : Shared}
mutual
theorem Da.reads (I : Inv X pins σ H s) : ∀ {v : V} {d : PyData} {u : Value}, d.hasDict = false → Da X.K H v d → RelV v u → ∃ as, Reads s.heap u d as
  | _, _, _, _, .non, r => by cases r; exact ⟨_, .none⟩
  | _, _, _, _, .bl b, r => by cases r; exact ⟨_, .bool b⟩
  | _, _, _, _, .int i, r => by obtain ⟨t, rfl⟩ := r; exact ⟨_, .int i t⟩
  | _, _, _, _, .str x, r => by obtain ⟨t, rfl⟩ := r; exact ⟨_, .str x t⟩
  | _, _, _, nd, .lst q h, r => by
    cases r
    obtain ⟨its, rv, ⟨o, n, e, c, _, dt⟩, _⟩ := I.list (.inl q)
    obtain ⟨as, hr⟩ := DaAll.reads I (by simpa [PyData.hasDict] using nd) h rv
    exact ⟨_, .list e c dt (by simpa using hr)⟩
  | _, _, _, nd, .tup q h, r => by
    cases r
    obtain ⟨its, rv, ⟨o, e, c, n, dt⟩, _⟩ := I.tuple q
    obtain ⟨as, hr⟩ := DaAll.reads I (by simpa [PyData.hasDict] using nd) h rv
    exact ⟨_, .tuple e c dt (by simpa using hr)⟩
  | _, _, _, nd, .dic _ _ _ _, _ => by simp [PyData.hasDict] at nd
theorem DaAll.reads (I : Inv X pins σ H s) : ∀ {vs : List V} {ds : List PyData} {us : List Value}, PyData.hasDictAll ds = false → DaAll X.K H vs ds → Vals vs us → ∃ as, ReadsAll s.heap us ds as
  | _, _, _, _, .nil, r => by cases r; exact ⟨_, .nil⟩
  | _, _, _, nd, .cons h t, r => by
    cases r with
    | cons r1 r2 =>
      simp [PyData.hasDictAll] at nd
      obtain ⟨as, q1⟩ := Da.reads I nd.1 h r1
      obtain ⟨bs, q2⟩ := DaAll.reads I nd.2 t r2
      exact ⟨_, .cons q1 q2⟩
end
/-! a bound of a shown text's length -/
mutual
def cst : PyData → Nat
  | .none => 4 | .bool _ => 5 | .int _ => 2000 | .str x => (reprText x).length | .list ds => 3 + cstA ds | .tuple ds => 3 + cstA ds | .dict _ => 0
def cstA : List PyData → Nat
  | [] => 0 | d :: ds => cst d + 2 + cstA ds
end
end

/-! ### a def, by its body -/
abbrev startY (N : List Str) (ys : List Y) : Ro := ys.map some ++ List.replicate (N.length - ys.length) none
theorem start_rs {K : PySem.W.Frag} {G : Hp} {N : List Str} {vs : List V} {ys : List Y} (r : RVs K G vs ys) : Rs K G (L2.start N vs) (startY N ys) := by
  have rep : ∀ n : Nat, Rs K G (List.replicate n none) (List.replicate n none) := by
    intro n
    induction n with
    | zero => exact .nil
    | succ n ih => exact .cons (.any _) ih
  have app : ∀ {a : L2.St} {b : Ro} {c : L2.St} {d : Ro}, Rs K G a b → Rs K G c d → Rs K G (a ++ c) (b ++ d) := by
    intro a b c d h1 h2
    induction h1 with
    | nil => exact h2
    | cons h t ih => exact .cons h ih
  have mp : ∀ {vs : List V} {ys : List Y}, RVs K G vs ys → Rs K G (vs.map some) (ys.map some) := by
    intro vs ys h
    induction h with
    | nil => exact .nil
    | cons h t ih => exact .cons (.is h) ih
  unfold L2.start startY
  rw [r.length]
  exact app (mp r) (rep _)
abbrev WE1 (E : XK) : WX := fun c d _ H => E c d H
section
variable {pr : Program} {w : World} {K : PySem.W.Frag} {mg : Str → Option Value} {base : Heap}
abbrev cxD (pr : Program) (w : World) (K : PySem.W.Frag) (mg : Str → Option Value) (base : Heap) (N : List Str) (qual : Str) (sc : Scope) (f : Addr) (cd : Value) (A : Around) (outer : List Env) (s : Shared) (H : Hp) (E : XK) : Cx := cxOf (L2.CX pr w) pr w K mg base N qual sc f cd A outer s H E
/-- what a body's derivation may lean on -/
structure Bx (X : Cx) (W : WX) (k : Nat) : Prop where
  hr : Room k X.A
  gd : X.A.guards = some []
  tk : Takes X W
theorem Fun.dok {x qual : Str} {st : Stmt} {f : Addr} {fd : FuncData} {N ps : List Str} {k : Nat} {d : DSp} (F : Fun K x qual st f fd) (S : FnScope N ps (defScope st)) (t : XS)
    (hb : ∀ (cdv : Value) (A : Around) (outer : List Env) (s : Shared) (H : Hp) (E : XK), Bx (cxD pr w K mg base N qual (defScope st) f cdv A outer s H E) (WE1 E) k → PassesOwn (model pr w) (cxD pr w K mg base N qual (defScope st) f cdv A outer s H E).A (cxD pr w K mg base N qual (defScope st) f cdv A outer s H E).env (cxD pr w K mg base N qual (defScope st) f cdv A outer s H E).xe →
      DSs (cxD pr w K mg base N qual (defScope st) f cdv A outer s H E) (WE1 E) (defBody st) t)
    (vc : ∀ ys m F P, d ys m F P → ys.length = ps.length ∧ t { nx := fun _ m => F (.d .none) m, rt := F, ex := fun c fs _ m => P c fs m } (startY N ys) m) : FnD pr w K mg base (k + 1) f fd ps d := by
  obtain ⟨oc, od, kV, doc, pm, an, cdv, ct, osl, rfl, lk, hcd⟩ := F.ex
  refine ⟨fun ys m F P h => (vc ys m F P h).1, fun A outer s H args us vs Q E hg hr e0 hbd r hsp => ?_⟩
  obtain ⟨G, m, ys, Fy, P, rh, rv, hd, cv, cx⟩ := hsp
  obtain ⟨hl, hvc⟩ := vc ys m Fy P hd
  have hlv : vs.length = ps.length := by rw [RVs.length rv]; exact hl
  have KX : K.In s.heap := e0.mod.kin.keeps fun b o e => (e0.bs b o e).1
  have hkind : ∀ y ∈ ps.zip us, (defScope st).names.lookup y.1 = some .local ∨ ((defScope st).names.lookup y.1 = some .cell ∧ ((cellsFrom (s.heap.objs.size + 1) (defScope st).names []).lookup y.1).isSome = true) := by
    rintro ⟨n, v⟩ hy
    exact (S.par n (List.of_mem_zip hy).1).imp id fun q => ⟨q, PySem.W.cellsFrom_some _ _ _ (.inl q)⟩
  refine codeAny_call_function hr.depth (KX _ _ lk) rfl S.co S.gen rfl (PySem.W.codeRec_of KX hcd) (hbd _ _ _ _ ?_)
  refine wpAny_newFunctionEnv_cells S.kind hkind fun env he s1 x => ?_
  subst he
  refine ⟨(e0.mod.nolimit.keeps fun b o e => (e0.bs b o e).1).keeps x.toInCall.keep, codeAny_func ?_⟩
  have gd : (A.deeper (envOfC qual (defScope st) s.heap.objs.size f cdv)).guards = some [] := hg
  have hbx : Bx (cxD pr w K mg base N qual (defScope st) f cdv A outer s H E) (WE1 E) k := ⟨hr.deeper _, gd, takes_of rfl rfl rfl rfl⟩
  have I := inv_start (CX := L2.CX pr w) (E := E) S hr.hd e0 hlv r x
  have go := (hb cdv A outer s H E hbx (passes_of rfl)).run (E := { nx := fun _ H' => Q .non H', rt := Q }) (start_rs (N := N) rv) rh hvc
    ⟨fun σ r G' m H' e1 _ rh1 q => cv .non _ G' m H' e1 rh1 (.d .non) q, fun v y G' m H' e1 rh1 rv1 q => cv v y G' m H' e1 rh1 rv1 q, fun _ _ _ _ _ _ _ _ q => q.elim, fun _ _ _ _ _ _ _ _ q => q.elim,
      fun c d fs σ r G' m H' e1 _ rh1 xf q => cx c d fs G' m H' e1 rh1 xf q⟩ [] s1 I
  have fin : ∀ {s' : Shared} {σ' : L2.St} {H' : Hp} {v : V} {u : Value}, Inv (cxD pr w K mg base N qual (defScope st) f cdv A outer s H E) [] σ' H' s' → RelV v u → Q v H' → CE outer pr w H s Q u s' :=
    fun J rv q => ⟨_, _, J.os, J.bare, J.base, J.hok, rv, q⟩
  refine wpAny_mono go (fun fl s' hs => ?_) fun e s' hs => hs
  match fl, hs with
  | .ret u, ⟨v, σ', H', J, rv, q⟩ => exact fin J rv q
  | .next, ⟨σ', H', J, q⟩ => exact fin (v := V.non) (u := Value.none) J rfl q
  | .brk, ⟨_, _, _, q⟩ => exact False.elim q
  | .cont, ⟨_, _, _, q⟩ => exact False.elim q
end

/-! ### the law's end -/
def dLaw : DSp := fun ys _ F _ => ∃ ns : List Int, ys = [.r (ns.map PyData.int)] ∧ ns.length ≤ 63 ∧ ∀ m', F (.d (.bool true)) m'
theorem law_end {P : Program} {w : World} {K : PySem.W.Frag} {mg mb : Str → Option Value} {k : Nat} {fa a : Addr} {fd : FuncData} {x : Str} {z : Shared} {us : List Value} {ns : List Int}
    (KX : K.In z.heap) (hns : z.heap.Ns mainGlobals mg) (hb : z.heap.Ns builtinsNs mb) (hbb : ∀ x : Str, x ≠ "__name__" → mb x = bootBuiltins x) (hlim : z.heap.NoLimit) (hg : z.gens = #[])
    (ha : z.heap.get? a = some { cls := .type "list", data := .seq us.toArray }) (hi : IntsAre us ns) (hl : ns.length ≤ 63) (hr : Room k callerA)
    (F : ∀ base : Heap, K.In base → base.Ns mainGlobals mg → FnD P w K mg base k fa fd [x] dLaw) (hbind : ∀ (s : Shared) (u : Value), BindsTo s fd ⟨[u], []⟩ [(x, u)]) :
    codeAny (model P w) callerA (.call (.ref fa) ⟨[.ref a], []⟩) (fun r s' => r = .ok (.ret (.bool true)) ∧ OldK z.heap s'.heap ∧ s'.os = z.os ∧ AllBare s'.gens) z := by
  have rv := vals_ints hi
  have lu := hi.length
  have l63 : ns.length ≤ sizeLine := Nat.le_trans hl (by decide)
  -- whichever abstract heap tracks at most the script
  have main : ∀ H : Hp, (∀ b, H b = none ∨ (b = a ∧ K.lookup b = none ∧ ∃ o xs, H b = some (.frz o (.lst xs)))) → SqL K H a (ns.map V.int) → HOk P w H z.heap →
      codeAny (model P w) callerA (.call (.ref fa) ⟨[.ref a], []⟩) (fun r s' => r = .ok (.ret (.bool true)) ∧ OldK z.heap s'.heap ∧ s'.os = z.os ∧ AllBare s'.gens) z := by
    intro H hO hS hok
    have hide : ∀ {b : Addr} {o : Obj}, z.heap.get? b = some o → H b = none → (hidT z.heap H).get? b = some o := fun e n => hidT_get e n
    have dictFree : ∀ {b : Addr} {o : Obj} {es : Array DictEntry} {ep : Nat}, z.heap.get? b = some o → o.data = .dict es ep → H b = none := fun {b o es ep} e d => by
      rcases hO b with q | ⟨rfl, _, _⟩
      · exact q
      · rw [ha] at e
        cases e
        have d' : Data.seq us.toArray _ = Data.dict es ep := d
        cases d'
    have nsOf : ∀ {b : Addr} {mm : Str → Option Value}, z.heap.Ns b mm → (hidT z.heap H).Ns b mm := fun {b mm} ⟨o, es, ep, e, d, q⟩ => ⟨o, es, ep, hide e (dictFree e d), d, q⟩
    have kin : K.In (hidT z.heap H) := fun b o e => hide (KX b o e) (by
      rcases hO b with q | ⟨_, q, _⟩
      · exact q
      · rw [q] at e; cases e)
    have md : Mod K mg (hidT z.heap H) := ⟨kin, nsOf hns, ⟨mb, nsOf hb, hbb⟩, by obtain ⟨mc, h1, h2⟩ := hlim; exact ⟨mc, nsOf h1, h2⟩⟩
    have e0 : Env0 P w K mg (hidT z.heap H) callerA [] z H := ⟨rfl, md, fun b o e => of_hidT e, Nat.le_of_eq (hidT_size _ _), trivial, (fun b q => nomatch q), hok, .of_eq hg⟩
    have want : cz K dLaw [.ref a] H (fun v _ => v = .bl true) (fun _ _ _ => False) :=
      ⟨H, fun _ => none, [.r (ns.map PyData.int)], fun y _ => y = .d (.bool true), P0, ⟨Ex.refl H, (fun _ _ q => nomatch q), (fun _ _ q => nomatch q), (fun _ _ q => nomatch q), fun b ps e => by rcases hO b with q | ⟨_, _, o, xs, q⟩ <;> rw [q] at e <;> cases e⟩, .cons (.r hS (DaAll.ints ns)) .nil, ⟨ns, rfl, hl, fun _ => rfl⟩,
        fun v y G' m' H' _ _ rv q => by subst q; exact rv.bl, fun _ _ _ _ _ _ _ _ _ q => q.elim⟩
    refine codeAny_mono ((F _ kin (nsOf hns)).run callerA [] z H ⟨[.ref a], []⟩ [.ref a] [.ref a] _ _ rfl hr e0 (hbind z (.ref a)) (.cons rfl .nil) want) fun r s' h => ?_
    match r, h with
    | .error e, ⟨_, _, _, _, _, _, _, _, _, _, _, _, q⟩ => exact q.elim
    | .ok .next, h => exact False.elim h
    | .ok .brk, h => exact False.elim h
    | .ok .cont, h => exact False.elim h
    | .ok (.ret u), ⟨v, H', os, bare, un, hok', r', q⟩ =>
      have q' : v = .bl true := q
      subst q'
      obtain rfl : u = Value.bool true := r'
      refine ⟨rfl, OldK.of_keep fun b o e => ?_, os, bare⟩
      rcases hO b with q | ⟨_, _, ob, xs, q⟩
      · exact un.keep b o e q (fun y => nomatch y) (fun y => nomatch y)
      · obtain ⟨e1, _⟩ := hok b _ q
        obtain ⟨e2, _⟩ := hok' b _ (un.frzs b ob _ q)
        rw [e] at e1
        cases e1
        exact e2
  cases hk : K.lookup a with
  | some o =>
    have e := KX a o hk
    rw [ha] at e
    cases e
    exact main (fun _ => none) (fun _ => .inl rfl) (.inr ⟨_, us.toArray, _, hk, rfl, rfl, rfl, by rw [List.size_toArray, lu]; exact l63, by simpa using rv⟩) fun b u q => nomatch q
  | none =>
    refine main (fun b => if b = a then some (.frz { cls := .type "list", data := .seq us.toArray } (.lst (ns.map V.int))) else none) (fun b => ?_) (.inl (.inr ⟨_, if_pos rfl⟩)) (fun b u q => ?_)
    · by_cases hba : b = a
      · subst hba
        exact .inr ⟨rfl, hk, _, _, if_pos rfl⟩
      · exact .inl (if_neg hba)
    · by_cases hba : b = a
      · subst hba
        have q' := (if_pos rfl).symm.trans q
        cases q'
        exact ⟨ha, by rw [List.length_map]; exact l63, us, _, rv, ha⟩
      · have q' := (if_neg hba).symm.trans q
        cases q'
/-- what k_head leaves, from the law's promise -/
theorem walk_d {l : PySem.W.OpenLaw} {k : Nat} {q : Program} {loose : List Str} {XP : (Str → Option Value) → Heap → Prop} {YP : World → Heap → Prop} {d : DefRec} {K : Params → PySem.W.Frag} {x : Str}
    (hn : l.most = some 63) (hdf : d.params.defaults = []) (hr : Room k callerA) (hY : ∀ (w : World) (h : Heap), YP w h → (K w.params).In h)
    (F : ∀ (w : World) (mg : Str → Option Value) (fa : Addr) (h : Heap), (K w.params).In h → h.Ns mainGlobals mg → mg d.name = some (.ref fa) →
      ∃ fd : FuncData, (∀ (s : Shared) (u : Value), BindsTo s fd ⟨[u], []⟩ [(x, u)]) ∧ ∀ base : Heap, (K w.params).In base → base.Ns mainGlobals mg → FnD l.prog w (K w.params) mg base k fa fd [x] dLaw) :
    PySem.W.WalkO q loose XP YP l.row.toRowW d [] (fun f vs => PySem.call f vs) := by
  refine Att.attach_call hn hdf fun w s₀ s₁ mg mb fa o pm cd doc a vs ns G Y ho hd hcd hmg hobj hints hlen hg => ?_
  have kx := hY w _ Y
  obtain ⟨fd, hb, hF⟩ := F w mg fa _ kx G.T.g hmg
  exact law_end kx G.T.g G.T.b G.T.builtins G.T.nolimit hg hobj hints hlen hr hF hb
end Dl
/-! D9: repr, sorted, methods of lists, exceptions. -/
namespace Dl
open PySem PySem.Spec PyProof.Rows L2 Evl

section
variable {X : Cx} {W : WX} {K : PySem.W.Frag} {G H : Hp} {m : Mu} {e o : Expr} {es : List Expr} {pos : Pos}
mutual
theorem cst_ok : ∀ d : PyData, d.showable = true → d.hasDict = false → d.shown.length ≤ cst d
  | .none, _, _ => by simp only [PyData.shown, cst]; decide
  | .bool b, _, _ => by cases b <;> (simp only [PyData.shown, cst]; decide)
  | .int i, h, _ => by
    have h' : i.natAbs.log2 < 1920 := by simpa [PyData.showable] using h
    simp only [PyData.shown, cst]
    have z := int_text_length_le (by decide) h'
    show (Str.ofString (toString i)).length ≤ 2000
    rw [PySem.ofString_length]
    omega
  | .str x, _, _ => by simp only [PyData.shown, cst]; exact Nat.le_refl _
  | .list ds, h, n => by
    simp only [PyData.shown, cst]
    have z := listText_len_le (PyData.shownAll ds)
    have y := cstA_ok ds (by simpa [PyData.showable] using h) (by simpa [PyData.hasDict] using n)
    omega
  | .tuple ds, h, n => by
    simp only [PyData.shown, cst]
    have z := tupleText_len_le (PyData.shownAll ds)
    have y := cstA_ok ds (by simpa [PyData.showable] using h) (by simpa [PyData.hasDict] using n)
    omega
  | .dict _, _, n => by simp [PyData.hasDict] at n
theorem cstA_ok : ∀ ds : List PyData, PyData.showableAll ds = true → PyData.hasDictAll ds = false → ((PyData.shownAll ds).map (·.length)).sum + 2 * (PyData.shownAll ds).length ≤ cstA ds
  | [], _, _ => by simp [PyData.shownAll, cstA]
  | d :: ds, h, n => by
    simp [PyData.showableAll] at h
    simp [PyData.hasDictAll] at n
    have z := cst_ok d h.1 n.1
    have y := cstA_ok ds h.2 n.2
    simp only [PyData.shownAll, cstA, List.map_cons, List.sum_cons, List.length_cons]
    omega
end
/-- what repr shows -/
abbrev xRepr : XRC := fun ys m F => ∃ d, ys = [.d d] ∧ d.showable = true ∧ d.hasDict = false ∧ d.depth ≤ 40 ∧ cst d ≤ 10000000 ∧ F (.d (.str d.shown)) m
theorem cd_repr (hg : X.A.guards = some []) (hu : X.A.units + 64 < cLine) : CallD X (.builtin "repr") xRepr := by
  refine ⟨fun vs H Q => ∃ v d, vs = [v] ∧ Da X.K H v d ∧ d.showable = true ∧ d.hasDict = false ∧ d.depth ≤ 40 ∧ d.shown.length ≤ sizeLine ∧ Q (.str d.shown) H, ?_, fun {G m H vs ys F Q} rh rv hx cv => ?_⟩
  · intro pins s σ H vs us Q I r ⟨v, d, ev, hd, h1, h2, h3, h4, q⟩
    subst ev
    obtain ⟨u, rfl, ru⟩ := vals1 r
    obtain ⟨as, rd⟩ := Da.reads I h2 hd ru
    cases hd with
    | non => cases ru; exact PySem.P.repr_of_none ⟨.str _, H, I.tok _, ⟨_, rfl⟩, q⟩
    | bl b => cases ru; exact PySem.P.repr_of_bool ⟨.str _, H, I.tok _, ⟨_, rfl⟩, q⟩
    | int i =>
      obtain ⟨t, rfl⟩ := ru
      exact PySem.P.repr_of_int (by simpa [PyData.showable] using h1) ⟨.str _, H, I.tok _, ⟨_, rfl⟩, q⟩
    | str x =>
      obtain ⟨t, rfl⟩ := ru
      exact PySem.P.repr_of_str ⟨.str _, H, I.tok _, ⟨_, rfl⟩, q⟩ h4
    | lst _ _ =>
      cases ru
      exact repr_of_reads' rd h1 (PyData.noDict_hsm h2) hg (by omega) (fun _ _ z => z) (fun h' t tk k => ⟨.str _, H, I.kept k, ⟨_, rfl⟩, q⟩) h4
    | tup _ _ =>
      cases ru
      exact repr_of_reads' rd h1 (PyData.noDict_hsm h2) hg (by omega) (fun _ _ z => z) (fun h' t tk k => ⟨.str _, H, I.kept k, ⟨_, rfl⟩, q⟩) h4
    | dic _ _ _ _ => simp [PyData.hasDict] at h2
  · obtain ⟨d, rfl, h1, h2, h3, h4, f⟩ := hx
    obtain ⟨v, rfl, rw⟩ := rvs1 rv
    exact ⟨v, d, rfl, rw.da.mono rh.sub, h1, h2, h3, Nat.le_trans (cst_ok d h1 h2) (Nat.le_trans h4 (by decide)), cv.at rh (.d (.str _)) f⟩

/-! ### sorted, of pairs of ints -/
def lexLe (p q : Int × Int) : Bool := !SrtO.lexB q p
theorem lexLe_trans (a b c : Int × Int) (h1 : lexLe a b = true) (h2 : lexLe b c = true) : lexLe a c = true := by
  unfold lexLe at *
  simp only [Bool.not_eq_true'] at *
  have x := SrtO.lexB_no.mp h1
  have y := SrtO.lexB_no.mp h2
  refine SrtO.lexB_no.mpr ?_
  omega
theorem lexLe_total (a b : Int × Int) : (lexLe a b || lexLe b a) = true := by
  unfold lexLe
  cases q : SrtO.lexB b a with
  | false => simp
  | true =>
    have x := SrtO.lexB_iff.mp q
    have y : SrtO.lexB a b = false := SrtO.lexB_no.mpr (by omega)
    simp [y]
theorem lexLe_anti (a b : Int × Int) (h1 : lexLe a b = true) (h2 : lexLe b a = true) : a = b := by
  unfold lexLe at *
  simp only [Bool.not_eq_true'] at *
  have x := SrtO.lexB_no.mp h1
  have y := SrtO.lexB_no.mp h2
  exact Prod.ext (by omega) (by omega)
def srt (ps : List (Int × Int)) : List (Int × Int) := ps.mergeSort lexLe
theorem srt_uniq {ps qs : List (Int × Int)} (h : qs.Pairwise fun a b => lexLe a b = true) (p : qs.Perm ps) : srt ps = qs := by
  have s1 : (srt ps).Pairwise fun a b => lexLe a b = true := List.pairwise_mergeSort lexLe_trans lexLe_total ps
  have p1 : (srt ps).Perm qs := (List.mergeSort_perm ps lexLe).trans p.symm
  exact p1.eq_of_pairwise (fun a b _ _ h1 h2 => lexLe_anti a b h1 h2) s1 h
def prD (p : Int × Int) : PyData := .tuple [.int p.1, .int p.2]
abbrev xSorted : XRC := fun ys m F => ∃ (ps : List (Int × Int)), ys = [.d (.list (ps.map prD))] ∧ F (.d (.list ((srt ps).map prD))) m
def PrV (K : PySem.W.Frag) (H : Hp) (x : V) (p : Int × Int) : Prop := ∃ t, x = .ref t ∧ SqT K H t [.int p.1, .int p.2]
theorem pr_das : ∀ {vs : List V} {ps : List (Int × Int)}, DaAll K H vs (ps.map prD) → Paired (PrV K H) vs ps
  | [], [], .nil => .nil
  | v :: vs, p :: ps, .cons h t => .cons (by
      cases h with
      | tup s q =>
        cases q with
        | cons q1 q2 =>
          cases q2 with
          | cons q3 q4 => cases q4; cases q1; cases q3; exact ⟨_, rfl, s⟩) (pr_das t)
theorem das_pr : ∀ {vs : List V} {ps : List (Int × Int)}, Paired (PrV K H) vs ps → DaAll K H vs (ps.map prD)
  | _, _, .nil => .nil
  | _, _, .cons ⟨t, e, s⟩ r => .cons (by subst e; exact .tup s (.cons (.int _) (.cons (.int _) .nil))) (das_pr r)
theorem PrV.mono {H' : Hp} (e : Ex H H') {x : V} {p : Int × Int} (h : PrV K H x p) : PrV K H' x p := by
  obtain ⟨t, e1, s⟩ := h
  exact ⟨t, e1, ex_t e s⟩
open Classical in
theorem cd_sorted : CallD X (.builtin "sorted") xSorted := by
  refine ⟨fun vs H Q => ∃ a xs ps, vs = [V.ref a] ∧ SqL X.K H a xs ∧ Paired (PrV X.K H) xs ps ∧ ∀ (zs : List (V × Int × Int)) d, H d = none → zs.Perm (xs.zip ps) → zs.map (·.2) = srt ps → Q (.ref d) (upd H d (.lst (zs.map (·.1)))), ?_, fun {G m H vs ys F Q} rh rv hx cv => ?_⟩
  · intro pins s σ H vs us Q I r ⟨a, xs, ps, ev, hs, hp, q⟩
    subst ev
    obtain ⟨its, rv, hl, hz⟩ := I.list hs
    obtain ⟨u, rfl, ru⟩ := vals1 r
    obtain rfl : u = Value.ref a := ru
    have uniq : ∀ (v : Value) (p q : Int × Int), Srt.IsPair s.heap v p.1 p.2 → Srt.IsPair s.heap v q.1 q.2 → p = q := by
      rintro v p q ⟨a1, o1, t1, u1, n1, e1, h1, c1, d1⟩ ⟨a2, o2, t2, u2, n2, e2, h2, c2, d2⟩
      rw [e1] at e2
      cases e2
      rw [h1] at h2
      cases h2
      rw [d1] at d2
      simp only [Data.seq.injEq, Array.mk.injEq, List.cons.injEq, Value.int.injEq] at d2
      exact Prod.ext d2.1.1.1 d2.1.2.1.1
    have isP : ∀ {x : V} {v : Value} {p : Int × Int}, PrV X.K H x p → RelV x v → Srt.IsPair s.heap v p.1 p.2 ∧ x = backV v ∧ ∃ b, v = Value.ref b := by
      rintro x v p ⟨t, rfl, st⟩ r
      cases r
      obtain ⟨js, rj, ⟨o, ho, hc, n, hd⟩, _⟩ := I.tuple st
      obtain ⟨u1, u2, rfl, r1, r2⟩ := vals2 rj
      obtain ⟨t1, rfl⟩ := r1
      obtain ⟨t2, rfl⟩ := r2
      exact ⟨⟨t, o, t1, t2, n, rfl, ho, hc, hd⟩, rfl, t, rfl⟩
    let k : Value → Int × Int := fun v => if h : ∃ p : Int × Int, Srt.IsPair s.heap v p.1 p.2 then h.choose else (0, 0)
    have kOf : ∀ {v : Value} {p : Int × Int}, Srt.IsPair s.heap v p.1 p.2 → k v = p := fun {v p} h => by
      have ex : ∃ p : Int × Int, Srt.IsPair s.heap v p.1 p.2 := ⟨p, h⟩
      show (if h : ∃ p : Int × Int, Srt.IsPair s.heap v p.1 p.2 then h.choose else (0, 0)) = p
      rw [dif_pos ex]
      exact uniq v _ _ ex.choose_spec h
    have all3 : ∀ {xs : List V} {ps : List (Int × Int)} {its : List Value}, Paired (PrV X.K H) xs ps → Vals xs its → xs.zip ps = its.map (fun v => (backV v, k v)) ∧ ps = its.map k ∧ (∀ v ∈ its, Srt.IsPair s.heap v (k v).1 (k v).2) ∧ ∀ v ∈ its, ∃ b, v = Value.ref b := by
      intro xs ps its hp
      induction hp generalizing its with
      | nil => intro r; cases r; exact ⟨rfl, rfl, (fun v h => nomatch h), (fun v h => nomatch h)⟩
      | cons h t ih =>
        intro r
        cases r with
        | cons r1 r2 =>
          obtain ⟨i0, i1, i2, i3⟩ := ih r2
          obtain ⟨ip, ex, eb⟩ := isP h r1
          have ek := kOf ip
          refine ⟨by rw [List.zip_cons_cons, List.map_cons, ← i0, ek, ← ex], by rw [List.map_cons, ← i1, ek], fun v hv => ?_, fun v hv => ?_⟩
          · rcases List.mem_cons.mp hv with rfl | hv
            · rw [ek]; exact ip
            · exact i2 v hv
          · rcases List.mem_cons.mp hv with rfl | hv
            · exact eb
            · exact i3 v hv
    obtain ⟨ez, ek, hpair, href⟩ := all3 hp rv
    refine SrtO.sorted_pairsO (k := k) hl.isList (by rw [← rv.length]; exact hz) hpair fun h' d out h1 h2 kp hd hn => ?_
    obtain ⟨n, hn⟩ := hn
    have eo : srt ps = out.map k := by
      refine srt_uniq ?_ (by rw [ek]; exact h2.perm.map k)
      refine List.pairwise_map.mpr (h1.imp fun {a b} hab => ?_)
      have hab' : SrtO.lexB (k b) (k a) = false := hab
      unfold lexLe
      rw [hab']
      rfl
    have ho : ∀ u ∈ out, ∃ b, u = Value.ref b := fun u hu => href u (h2.perm.mem_iff.mp hu)
    have fm : (out.map fun v => (backV v, k v)).map (·.1) = out.map backV := by rw [List.map_map]; rfl
    have sm : (out.map fun v => (backV v, k v)).map (·.2) = out.map k := by rw [List.map_map]; rfl
    have ly : (out.map backV).length ≤ sizeLine := by
      rw [List.length_map, h2.perm.length_eq, ← rv.length]
      exact hz
    have fin := q (out.map fun v => (backV v, k v)) d (I.hok.fresh hd) (by rw [ez]; exact h2.perm.map _) (by rw [sm, eo])
    rw [fm] at fin
    exact ⟨.ref d, upd H d (.lst (out.map backV)), I.laid (t' := s.toks) kp hd ⟨ly, out, n, vals_back ho, hn⟩, rfl, fin⟩
  · obtain ⟨ps, rfl, f⟩ := hx
    obtain ⟨v, rfl, rw⟩ := rvs1 rv
    obtain ⟨p, ws, rfl, s1, q1⟩ := rw.lst
    have hp : Paired (PrV X.K G) ws ps := pr_das q1
    refine ⟨p, ws, ps, rfl, .inl (rd_sub rh s1), pr_das (q1.mono rh.sub), fun zs d hd hz hs => ?_⟩
    have mem : ∀ {ws : List V} {ps : List (Int × Int)}, Paired (PrV X.K G) ws ps → ∀ z ∈ ws.zip ps, PrV X.K G z.1 z.2 := by
      intro ws ps h
      induction h with
      | nil => intro z hz; exact nomatch hz
      | cons h t ih =>
        intro z hz
        rw [List.zip_cons_cons] at hz
        rcases List.mem_cons.mp hz with rfl | hz
        · exact h
        · exact ih z hz
    have back : ∀ {zs : List (V × Int × Int)}, (∀ z ∈ zs, PrV X.K G z.1 z.2) → Paired (PrV X.K G) (zs.map (·.1)) (zs.map (·.2)) := by
      intro zs
      induction zs with
      | nil => intro _; exact .nil
      | cons z zs ih => intro h; exact .cons (h z (by simp)) (ih fun x hx => h x (by simp [hx]))
    have r1 := das_pr (back fun z h => mem hp z (hz.mem_iff.mp h))
    rw [hs] at r1
    exact lstD_ok rh r1.rvs hd f cv
end
end Dl
/-! D10: methods of lists, raise, try. -/
namespace Dl
open PySem PySem.Spec PyProof.Rows L2 Evl

section
variable {X : Cx} {W : WX} {K : PySem.W.Frag} {G H : Hp} {m : Mu} {e o : Expr} {es : List Expr} {pos : Pos} {to : XE} {t : XA} {te : XE}
/-! ### methods of built-in types -/
abbrev XRM := Y → List Y → Mu → (Y → Mu → Prop) → Prop
abbrev TyM (T : String) (m : Mu) : Y → Prop
  | .d (.str _) => T = "str"
  | .d (.list _) => T = "list"
  | .r _ => T = "list"
  | .l p => (T = "list" ∧ ∃ ys, m p = some (.lst ys)) ∨ (T = "dict" ∧ ∃ ys, m p = some (.dic ys))
  | _ => False
theorem tyM_ok {T : String} {v : V} {y : Y} (rh : Rh K G m H) (rv : RV K G v y) (h : TyM T m y) : tyV K T v H := by
  cases rv with
  | d q =>
    cases q with
    | str x => exact h
    | lst r q => exact .inl ⟨h, _, .inl (rd_sub rh r)⟩
    | _ => exact h.elim
  | l p =>
    rcases h with ⟨h, ys, e⟩ | ⟨h, ys, e⟩
    · obtain ⟨ws, e1, _⟩ := rh.lst e
      exact .inl ⟨h, ws, SqL.of e1⟩
    · obtain ⟨ws, e1, _⟩ := rh.dic e
      exact .inr (.inr (.inl ⟨h, .inl ⟨ws, e1⟩⟩))
  | v x => exact h.elim
  | r s q => exact .inl ⟨h, _, ex_l rh.sub s⟩
def MtD (X : Cx) (id : String) (xr : XRM) : Prop := ∃ r, MtR X id r ∧
  ∀ {G : Hp} {m : Mu} {H : Hp} {v : V} {y : Y} {vs : List V} {ys : List Y} {F : Y → Mu → Prop} {Q : VK}, Rh X.K G m H → RV X.K G v y → RVs X.K G vs ys → xr y ys m F → CvE X.K G F Q → r v vs H Q
abbrev xBM (T : String) (xr : XRM) (to : XE) (t : XA) : XE := fun r m F P => to r m (fun y m1 => TyM T m1 y ∧ t r m1 (fun ys m2 => xr y ys m2 F) P) P
theorem de_bm {T id : String} {name : Str} {apos : Pos} {xr : XRM} (hm : MtD X id xr) (pa : PlainAttrs T) (slot : Slot T name id) (hty : typeOf (.builtin id) = pure (.type "method_descriptor")) (ho : DE X W o to) (ha : DA X W (e :: es) t)
    (hbase : attributeBase o name X.env (eval o X.env) = eval o X.env := by rfl)
    (hfew : ((backTo pos (starEach (e :: es) X.env)).all (fun x => !x.1) && (backToKw pos (keywordEach [] X.env)).all (fun x => x.1.isSome) && decide ((e :: es).length + ([] : List Keyword).length + (if ([] : List Keyword).isEmpty then 0 else 1) < 30)) = true := by rfl)
    (hline : (apos.endLine == pos.line) = true := by rfl) (hs : starEach (e :: es) X.env = (false, eval e X.env) :: starEach es X.env := by rfl) (hplain : (backTo pos (starEach es X.env)).any (·.1) = false := by rfl) :
    DE X W (.Call (.Attribute o name apos) (e :: es) [] pos) (xBM T xr to t) := ⟨fun {G r m σ H F P Q} rs rh hx cv cx => by
  obtain ⟨r1, g1, g2⟩ := hm
  exact se_of (pe_bm pa slot hty g1 se_pe sa_pa hbase hfew hline hs hplain) (ho.run rs rh hx (fun v y G1 m1 H1 e1 rh1 rv1 ⟨q1, q2⟩ => ⟨tyM_ok rh1 rv1 q1,
    ha.run (rs.mono e1) rh1 q2 (fun vs ys G2 m2 H2 e2 rh2 rv2 q3 => g2 rh2 (rv1.mono e2) rv2 q3 (cv.mono (e1.trans e2))) (cx.mono e1)⟩) cx)⟩
theorem de_bm0 {T id : String} {name : Str} {apos : Pos} {xr : XRM} (hm : MtD X id xr) (pa : PlainAttrs T) (slot : Slot T name id) (hty : typeOf (.builtin id) = pure (.type "method_descriptor")) (ho : DE X W o to)
    (hbase : attributeBase o name X.env (eval o X.env) = eval o X.env := by rfl) (hline : (apos.endLine == pos.line) = true := by rfl) : DE X W (.Call (.Attribute o name apos) [] [] pos) (xBM T xr to xNil) := ⟨fun {G r m σ H F P Q} rs rh hx cv cx => by
  obtain ⟨r1, g1, g2⟩ := hm
  exact se_of (pe_bm0 pa slot hty g1 se_pe hbase hline) (ho.run rs rh hx (fun v y G1 m1 H1 e1 rh1 rv1 ⟨q1, q2⟩ => ⟨tyM_ok rh1 rv1 q1, g2 rh1 rv1 .nil q2 (cv.mono e1)⟩) cx)⟩
abbrev xAppend : XRM := fun y ys m F => ∃ p zs z, y = .l p ∧ ys = [z] ∧ m p = some (.lst zs) ∧ zs.length < 10000 ∧ F (.d .none) (mu m p (.lst (zs ++ [z])))
theorem md_append : MtD X "list.append" xAppend := ⟨_, mt_append, fun {G m H v y vs ys F Q} rh rv rvs ⟨p, zs, z, e1, e2, h1, h2, f⟩ cv => by
  subst e1 e2
  obtain ⟨w, rfl, rw⟩ := rvs1 rvs
  cases rv.loc
  obtain ⟨ws, e3, q⟩ := rh.lst h1
  exact ⟨p, ws, w, rfl, rfl, e3, by rw [q.length]; exact Nat.lt_of_lt_of_le h2 szl, cv .non _ G _ _ (Ex.refl G) (rh.write h1 (.lst (q.app (.cons rw .nil)))) (.d .non) f⟩⟩
abbrev xPopAt : XRM := fun y ys m F => ∃ p zs i k z, y = .l p ∧ ys = [.d (.int i)] ∧ m p = some (.lst zs) ∧ -(2 ^ 63) ≤ i ∧ i < 2 ^ 63 ∧ seqIndex? i zs.length = some k ∧ zs[k]? = some z ∧ F z (mu m p (.lst (zs.eraseIdx k)))
theorem md_popAt : MtD X "list.pop" xPopAt := ⟨_, mt_popAt, fun {G m H v y vs ys F Q} rh rv rvs ⟨p, zs, i, k, z, e1, e2, h1, h2, h3, h4, h5, f⟩ cv => by
  subst e1 e2
  obtain ⟨w, rfl, rw⟩ := rvs1 rvs
  cases rv.loc
  obtain ⟨ws, e3, q⟩ := rh.lst h1
  obtain ⟨u, hu, ru⟩ := RVs.get q h5
  exact ⟨p, ws, i, k, u, rfl, by rw [rw.int], e3, h2, h3, by rw [q.length]; exact h4, hu, cv u z G _ _ (Ex.refl G) (rh.write h1 (.lst (RVs.eraseIdx k q))) ru f⟩⟩
/-- xs.extend(ys) -/
abbrev xExtend : XRM := fun y ys m F => ∃ p zs z us, y = .l p ∧ ys = [z] ∧ m p = some (.lst zs) ∧ LsY m z us ∧ zs.length + us.length ≤ 10000 ∧ F (.d .none) (mu m p (.lst (zs ++ us)))

/-! ### raise -/
abbrev xRaise (C : Addr) (t : XE) : XS := fun D r m => t r m (fun _ m1 => D.ex (.ref C) [] r m1) (D.at r)
theorem ds_raise {C : Addr} {bmB : List Value} {B newId initId : String} {x : Str} {p pos' : Pos} (hc : X.calm = true) (tk : Takes X W) (F : ExcBaseFacts B newId initId bmB) (q : PySem.W.excIn X.K C bmB newId = true) (gC : X.mg x = some (.ref C)) (kC : PySem.W.keepIn X.K (.ref C) = true) (rs' : Raises X (.ref C)) (hg : Gl X x)
    (he : DE X W e te) (hs : starEach [e] X.env = (false, eval e X.env) :: starEach [] X.env := by rfl) (hdb : (x == ("__debug__" : Str)) = false := by decide) : DS X W (.Raise (some (.Call (.Name x p) [e] [] pos)) none pos') (xRaise C te) := ⟨fun {G r m σ H D E} rs rh hx f =>
  ss_of (ps_raise hc tk (SkE.pmk_own1 F q gC kC rs' hg se_pe hs hdb)) (he.run rs rh hx (fun v y G1 m1 H1 e1 rh1 rv1 q1 => f.ex _ none [] σ r G1 m1 H1 e1 (rs.mono e1) rh1 (.inl ⟨rfl, rfl⟩) q1) (f.cx rs))⟩

/-! ### try: .. except X: -/
def TSof (K : PySem.W.Frag) (W : WX) (t : XS) : TS := fun E σ H => ∃ G r m D, Rs K G σ r ∧ Rh K G m H ∧ t D r m ∧ Fits K W G D E
theorem tsof_pss {sts : List Stmt} {t : XS} (h : DSs X W sts t) : PSs X sts (TSof X.K W t) := ⟨fun pins s σ H E I ⟨G, r, m, D, rs, rh, q, f⟩ => h.run rs rh q f pins s I⟩
abbrev xTry (K : PySem.W.Frag) (c : Value) (tb ts : XS) : XS := fun D r m => tb { D with ex := fun cls fs r1 m1 => ∃ b, PySem.W.exmOne K cls c = some b ∧ (b = true → ts { D with ex := fun _ _ _ _ => False } r1 m1) ∧ (b = false → D.ex cls fs r1 m1) } r m
theorem ds_try {x : Str} {c : Value} {body suite : List Stmt} {b0 : Stmt} {np pos' : Pos} {tb ts : XS} (hs : X.stack = X.env :: X.outer) (hf : X.env.frame = some X.env.locals) (hc : Names X x c) (tk : Takes X W)
    (hb : ∀ (W' : WX) (pn : List (Addr × Obj)) (xe : Value → Shared → Prop), Takes (X.tr pn xe) W' → PassesOwn (model X.prog X.w) X.A X.env xe → DSs (X.tr pn xe) W' body tb)
    (hsu : ∀ (a : Addr) (oe : Obj) (cls : Value) (d : Option Addr) (pn : List (Addr × Obj)), Zc cls d oe → (∃ vs, oe.data = .fields vs) → DSs (X.suite a ((a, oe) :: pn)) W0 (b0 :: suite) ts) :
    DS X W (.Try body [.ExceptHandler (some (.Name x np)) none (b0 :: suite) pos'] [] [] pos) (xTry X.K c tb ts) := ⟨fun {G r m σ H D E} rs rh hx f =>
  ss_of (ps_try_only (tb := fun W' => TSof X.K W' tb) (ts := fun _ _ _ => TSof X.K W0 ts) hs hf hc tk (fun W' pn xe h1 h2 => tsof_pss (hb W' pn xe h1 h2)) (fun a oe cls d pn h1 h2 => tsof_pss (hsu a oe cls d pn h1 h2)))
    ⟨G, r, m, _, rs, rh, hx, ⟨f.nx, f.rt, f.bk, f.ct, fun cls d fs σ1 r1 G1 m1 H1 e1 rs1 rh1 xf ⟨b, q1, q2, q3⟩ => ⟨b, q1, fun hb a ha => ⟨G1, r1, m1, _, rs1, rh1, q2 hb, ⟨(f.mono e1).nx, (f.mono e1).rt, (f.mono e1).bk, (f.mono e1).ct, fun _ _ _ _ _ _ _ _ _ _ _ _ z => z.elim⟩⟩, fun hb => f.ex cls d fs σ1 r1 G1 m1 H1 e1 rs1 rh1 xf (q3 hb)⟩⟩⟩⟩
/-- an error of the class at C is what «except C» names -/
theorem exm_same {C : Addr} (h1 : PySem.W.subIn K (.ref C) (.type "BaseException") = some true) (h2 : PySem.W.kitCls K (.ref C) (.ref C) = some true) : PySem.W.exmOne K (.ref C) (.ref C) = some true := by
  unfold PySem.W.exmOne
  rw [h1]
  exact h2
end
end Dl
/-! D11: texts put together, minus, calls by what is known of a def, comprehensions by what they collect. -/
namespace Dl
open PySem PySem.Spec PyProof.Rows L2 Evl

section
variable {X : Cx} {W : WX} {K : PySem.W.Frag} {G H : Hp} {m : Mu} {e o : Expr} {es : List Expr} {pos : Pos} {to ta te tb : XE} {t : XA} {k j : Nat}
/-! ### -x -/
abbrev xNeg (ta : XE) : XE := fun r m F P => ta r m (fun y m1 => ∃ i : Int, y = .d (.int i) ∧ F (.d (.int (-i))) m1) P
theorem de_neg (h : DE X W e ta) : DE X W (.UnaryOp .USub e pos) (xNeg ta) := ⟨fun {G r m σ H F P Q} rs rh hx cv cx =>
  se_of (pe_un un_neg se_pe) (h.run rs rh hx (fun v y G1 m1 H1 e1 rh1 rv1 ⟨i, q, f⟩ => by
    subst q
    exact ⟨i, rv1.int, cv _ _ G1 m1 H1 e1 rh1 (.d (.int _)) f⟩) cx)⟩
/-! ### f-strings: the text is known -/
def fmtY : Y → Option Str
  | .d (.str x) => if x.length ≤ 2000 then some x else none
  | .d (.int i) => if i.natAbs.log2 < 1920 then some (Str.ofString (toString i)) else none
  | _ => none
inductive DJ (X : Cx) (W : WX) : List Expr → List XE → Prop
  | nil : DJ X W [] []
  | str {x : Str} {j : Nat} {p : Pos} {es : List Expr} {ts : List XE} : DJ X W es ts → DJ X W (.Constant (.str x) j p :: es) (xC (.d (.str x)) :: ts)
  | fmt {e : Expr} {p : Pos} {te : XE} {es : List Expr} {ts : List XE} : DE X W e te → DJ X W es ts → DJ X W (.FormattedValue e (-1) none p :: es) (te :: ts)
def xJ : List XE → Str → Ro → Mu → (Str → Mu → Prop) → XP → Prop
  | [], acc, _, m, F, _ => F acc m
  | t :: ts, acc, r, m, F, P => t r m (fun y m1 => ∃ x, fmtY y = some x ∧ (acc ++ x).length ≤ 10000 ∧ xJ ts (acc ++ x) r m1 F P) P
def SJ (X : Cx) (es : List Expr) (ts : List TE) : Prop := PJ X es ts
theorem fmt_len {y : Y} {x : Str} (h : fmtY y = some x) : x.length ≤ 2000 := by
  unfold fmtY at h
  split at h
  · split at h
    · cases h; assumption
    · cases h
  · split at h
    · cases h
      rename_i i q
      have z := int_text_length_le (by decide) q
      rw [PySem.ofString_length]
      omega
    · cases h
  · cases h
theorem fmt_ok {v : V} {y : Y} {x : Str} {Q : V → Hp → Prop} (rv : RV K G v y) (h : fmtY y = some x) (q : Q (V.str x) H) :
    (∃ y, v = V.str y ∧ y.length ≤ sizeLine ∧ Q (V.str y) H) ∨ ∃ i, v = V.int i ∧ i.natAbs.log2 < 1920 ∧ Q (V.str (Str.ofString (toString i))) H := by
  unfold fmtY at h
  split at h
  · split at h
    · cases h
      rename_i z
      exact .inl ⟨_, rv.str, Nat.le_trans z (by decide), q⟩
    · cases h
  · split at h
    · cases h
      rename_i z
      exact .inr ⟨_, rv.int, z, q⟩
    · cases h
  · cases h
theorem dj_ok {es : List Expr} {xs : List XE} (h : DJ X W es xs) : ∃ ts : List TE, PJ X es ts ∧ ∀ {G : Hp} {r : Ro} {m : Mu} {σ : L2.St} {H : Hp} {F : Str → Mu → Prop} {P : XP} {Q : Str → Hp → Prop} (acc : Str), Rs X.K G σ r → Rh X.K G m H → xJ xs acc r m F P →
    (∀ x G' m' H', Ex G G' → Rh X.K G' m' H' → F x m' → Q x H') → CvX X.K G P (WEx W σ) → tJs ts acc σ H Q := by
  induction h with
  | nil => exact ⟨[], .nil, fun acc rs rh hx cv cx => cv acc _ _ _ (Ex.refl _) rh hx⟩
  | @str x j p es xs hj ih =>
    obtain ⟨ts, h1, h2⟩ := ih
    refine ⟨_ :: ts, .cons pe_str h1, fun {G r m σ H F P Q} acc rs rh hx cv cx => ?_⟩
    obtain ⟨y, e1, e2, q⟩ := hx
    have e1' : (if x.length ≤ 2000 then some x else none) = some y := e1
    split at e1'
    · cases e1'
      exact ⟨x, rfl, Nat.le_trans e2 szl, h2 _ rs rh q cv cx⟩
    · cases e1'
  | @fmt e p te es xs he hj ih =>
    obtain ⟨ts, h1, h2⟩ := ih
    refine ⟨_ :: ts, .cons (pe_fmt se_pe) h1, fun {G r m σ H F P Q} acc rs rh hx cv cx => ?_⟩
    refine he.run rs rh hx (fun v y G1 m1 H1 e1 rh1 rv1 ⟨x, q1, q2, q3⟩ => ?_) cx
    refine fmt_ok (Q := fun v H1 => ∃ y, v = V.str y ∧ (acc ++ y).length ≤ sizeLine ∧ tJs ts (acc ++ y) σ H1 Q) rv1 q1 ⟨x, rfl, Nat.le_trans q2 szl, ?_⟩
    exact h2 _ (rs.mono e1) rh1 q3 (fun x G' m' H' e' => cv x G' m' H' (e1.trans e')) (cx.mono e1)
abbrev xJs (ts : List XE) : XE := fun r m F P => xJ ts Str.empty r m (fun x m1 => F (.d (.str x)) m1) P
theorem de_fstr {e1 e2 : Expr} {xs : List XE} (h : DJ X W (e1 :: e2 :: es) xs) : DE X W (.JoinedStr (e1 :: e2 :: es) pos) (xJs xs) := ⟨fun {G r m σ H F P Q} rs rh hx cv cx => by
  obtain ⟨ts, h1, h2⟩ := dj_ok h
  exact se_of (pe_joined h1) (h2 _ rs rh hx (fun x G' m' H' e' rh' f => cv _ _ G' m' H' e' rh' (.d (.str x)) f) cx)⟩

/-! ### calls by what is known -/
structure GF (pr : Program) (w : World) (K : PySem.W.Frag) (mg : Str → Option Value) (base : Heap) (x : Str) (k : Nat) (f : Addr) (fd : FuncData) (ps : List Str) (d : DSp) : Prop where
  fn : FnD pr w K mg base k f fd ps d
  bn : Binds K fd ps []
  gm : mg x = some (.ref f)
  kp : PySem.W.keepIn K (.ref f) = true
structure MF (pr : Program) (w : World) (K : PySem.W.Frag) (mg : Str → Option Value) (base : Heap) (C : Addr) (x : Str) (k : Nat) (f : Addr) (fd : FuncData) (ps : List Str) (d : DSp) : Prop where
  fn : FnD pr w K mg base k f fd ps d
  bn : Binds K fd ps []
  cl : Cls K C
  mt : Meth K C x f
structure PF (pr : Program) (w : World) (K : PySem.W.Frag) (mg : Str → Option Value) (base : Heap) (C : Addr) (x : Str) (k : Nat) (p f : Addr) (fd : FuncData) (ps : List Str) (d : DSp) : Prop where
  fn : FnD pr w K mg base k f fd ps d
  bn : Binds K fd ps []
  cl : Cls K C
  pr' : PropOf K C x p f
structure NF (pr : Program) (w : World) (K : PySem.W.Frag) (mg : Str → Option Value) (base : Heap) (x : Str) (C : Addr) (k : Nat) (f : Addr) (fd : FuncData) (ps : List Str) (d : DSp) : Prop where
  fn : FnD pr w K mg base k f fd ps d
  bn : Binds K fd ps []
  gm : mg x = some (.ref C)
  mk' : Mk K C f
section
variable {f C pa : Addr} {fd : FuncData} {ps : List Str} {d : DSp} {x : Str} {p apos : Pos}
theorem de_gf (F : GF X.prog X.w X.K X.mg X.base x k f fd ps d) (hr : Room j X.A) (hgd : X.A.guards = some []) (tk : Takes X W) (hg : Gl X x) (ha : DA X W (e :: es) t) (hk : k ≤ j := by decide) (hdb : (x == ("__debug__" : Str)) = false := by decide) (he : starEach (e :: es) X.env = (false, eval e X.env) :: starEach es X.env := by rfl)
    (hpl : (backTo pos (starEach es X.env)).any (·.1) = false := by rfl) : DE X W (.Call (.Name x p) (e :: es) [] pos) (xCall d [] t) :=
  de_call F.fn (hr.mono hk) hgd tk hg F.gm F.kp F.bn .nil (fun _ => .nil) ha hdb he hpl
theorem de_mf {pl : Sem Bool} (he : DE X W o to) (F : MF X.prog X.w X.K X.mg X.base C x k f fd ps d) (hr : Room j X.A) (hgd : X.A.guards = some []) (tk : Takes X W) (ha : DA X W (e :: es) t) (hk : k ≤ j := by decide) (hst : starEach (e :: es) X.env = (false, eval e X.env) :: starEach es X.env := by rfl) (hpl : (backTo pos (starEach es X.env)).any (·.1) = false := by rfl)
    (ht : eval (.Call (.Attribute o x apos) (e :: es) [] pos) X.env = (eval o X.env >>= fun ov => standAt apos.atName >>= fun _ => holding [ov] (getMethod ov x pl) >>= fun z =>
      callWith pos z.1 z.2 (backTo pos (starEach (e :: es) X.env)) (backToKw pos (keywordEach [] X.env))) := by rfl) :
    DE X W (.Call (.Attribute o x apos) (e :: es) [] pos) (xMeth C x d [] to t) := de_meth he F.cl F.mt F.fn (hr.mono hk) hgd tk F.bn .nil (fun _ => .nil) ha hst hpl ht
theorem de_mf0 {pl : Sem Bool} (he : DE X W o to) (F : MF X.prog X.w X.K X.mg X.base C x k f fd ps d) (hr : Room j X.A) (hgd : X.A.guards = some []) (tk : Takes X W) (hk : k ≤ j := by decide)
    (ht : eval (.Call (.Attribute o x apos) [] [] pos) X.env = (eval o X.env >>= fun ov => standAt apos.atName >>= fun _ => holding [ov] (getMethod ov x pl) >>= fun z =>
      callWith pos z.1 z.2 (backTo pos (starEach [] X.env)) (backToKw pos (keywordEach [] X.env))) := by rfl) :
    DE X W (.Call (.Attribute o x apos) [] [] pos) (xMeth C x d [] to xNil) := de_meth0 he F.cl F.mt F.fn (hr.mono hk) hgd tk F.bn .nil (fun _ => .nil) ht
theorem de_pf (he : DE X W o to) (F : PF X.prog X.w X.K X.mg X.base C x k pa f fd ps d) (hr : Room j X.A) (hgd : X.A.guards = some []) (hk : k + 1 ≤ j := by decide) (hab : attributeBase o x X.env (eval o X.env) = eval o X.env := by rfl) : DE X W (.Attribute o x pos) (xProp C d to) :=
  de_prop he F.cl F.pr' F.fn (hr.mono hk) hgd F.bn hab
theorem de_nf (F : NF X.prog X.w X.K X.mg X.base x C k f fd ps d) (hr : Room j X.A) (hgd : X.A.guards = some []) (tk : Takes X W) (hg : Gl X x) (ha : DA X W (e :: es) t) (hk : k + 1 ≤ j := by decide) (hdb : (x == ("__debug__" : Str)) = false := by decide) (he : starEach (e :: es) X.env = (false, eval e X.env) :: starEach es X.env := by rfl)
    (hpl : (backTo pos (starEach es X.env)).any (·.1) = false := by rfl) : DE X W (.Call (.Name x p) (e :: es) [] pos) (xMake C d [] t) :=
  de_make F.mk' F.fn (hr.mono hk) hgd tk hg F.gm F.bn .nil (fun _ => .nil) ha hdb he hpl
theorem Room.u64 {A : Around} (hr : Room k A) : A.units + 64 < cLine := by
  have := hr.un; omega
end
end

/-! ### the store grows -/
def Mle (m M : Mu) : Prop := ∀ a o, m a = some o → M a = some o
section
variable {m M N : Mu} {a p : Addr} {o u : MO}
theorem Mle.refl : Mle m m := fun _ _ h => h
theorem Mle.trans (h : Mle m M) (h' : Mle M N) : Mle m N := fun a o e => h' a o (h a o e)
theorem Mle.new (h : m p = none) : Mle m (mu m p o) := fun a u e => by
  rw [mu_ne]; exact e
  intro q; subst q; rw [h] at e; cases e
theorem Mle.mu (h : Mle m M) : Mle (mu m p o) (mu M p o) := fun a u e => by
  by_cases q : a = p
  · subst q; rw [mu_same] at e ⊢; exact e
  · rw [mu_ne q] at e ⊢; exact h a u e
theorem Mle.drop (h : Mle m M) (hp : m p = none) : Mle m (fun b => if b = p then none else M b) := fun a u e => by
  show (if a = p then none else M a) = some u
  rw [if_neg]; exact h a u e
  intro q; subst q; rw [hp] at e; cases e
theorem Mle.none (h : Mle m M) (hp : M p = none) : m p = none := by
  cases e : m p with
  | none => rfl
  | some o => rw [h p o e] at hp; cases hp
theorem mu_lt (h : m p = none) (h2 : m a = some o) : a ≠ p := fun q => by subst q; rw [h] at h2; cases h2
end
/-! ### a comprehension, by what a turn collects -/
section
variable {r : Ro} {m : Mu} {F : Y → Mu → Prop} {g : XG} {tt : XT} {te : XE} {vs : List Nat}
theorem fm_len {α : Type} (f : Nat → Option α) (n : Nat) : ((List.range n).filterMap f).length ≤ n := by
  have := List.length_filterMap_le f (List.range n)
  rwa [List.length_range] at this
theorem fm_succ {α : Type} (f : Nat → Option α) (n : Nat) : (List.range (n + 1)).filterMap f = (List.range n).filterMap f ++ (f n).toList := by
  rw [List.range_succ, List.filterMap_append]
  congr 1
/-- what is asked of a walk, from the store m -/
abbrev LcZ (fin : Addr → List Y → Mu → (Y → Mu → Prop) → Prop) (k : Wk) (g : XG) (tt : XT) (te : XE) (vs : List Nat) (r : Ro) (m : Mu) (F : Y → Mu → Prop) : Prop :=
  ∀ D, m D = none → ∃ Z : Nat → List Y → Mu → Prop, Z 0 [] (mu m D (.lst [])) ∧
    ∀ i acc M, i ≤ k.n → Z i acc M → M D = some (.lst acc) ∧ k.src M ∧ (i < k.n → k.itm i M (fun y M1 => g y (wipeR r vs) M1 (fun r2 M2 => tt r2 M2 (fun b M3 =>
      if b = true then te r2 M3 (fun z M4 => M4 D = some (.lst acc) ∧ acc.length < 10000 ∧ Z (i + 1) (acc ++ [z]) (mu M4 D (.lst (acc ++ [z])))) P0 else Z (i + 1) acc M3) P0))) ∧ (i = k.n → fin D acc M F)
theorem lc_go {fin : Addr → List Y → Mu → (Y → Mu → Prop) → Prop} {k : Wk} (f : Nat → Option Y) (hn : k.n ≤ 10000) (hs : ∀ M, Mle m M → k.src M)
    (ht : ∀ i M, i < k.n → Mle m M → ∀ (C : Y → Mu → Prop) (N : Mu → Prop), (∀ z M', f i = some z → Mle M M' → C z M') → (∀ M', f i = none → Mle M M' → N M') →
      k.itm i M (fun y M1 => g y (wipeR r vs) M1 (fun r2 M2 => tt r2 M2 (fun b M3 => if b = true then te r2 M3 C P0 else N M3) P0)))
    (hf : ∀ D M, m D = none → Mle (mu m D (.lst ((List.range k.n).filterMap f))) M → fin D ((List.range k.n).filterMap f) M F) : LcZ fin k g tt te vs r m F := by
  intro D hD
  refine ⟨fun i acc M => acc = (List.range i).filterMap f ∧ Mle (mu m D (.lst acc)) M, ⟨rfl, Mle.refl⟩, ?_⟩
  rintro i acc M hi ⟨rfl, hM⟩
  have hmD := hM D _ mu_same
  have hmM : Mle m M := (Mle.new hD).trans hM
  refine ⟨hmD, hs M hmM, fun hlt => ?_, fun he => ?_⟩
  · refine ht i M hlt hmM _ _ (fun z M' hz hM' => ⟨hM' _ _ hmD, Nat.lt_of_le_of_lt (fm_len f i) (by omega), ?_, ?_⟩) (fun M' hz hM' => ⟨?_, ?_⟩)
    · rw [fm_succ, hz]; rfl
    · have z1 : Mle (mu m D (.lst ((List.range i).filterMap f))) M' := hM.trans hM'
      have z2 := z1.mu (p := D) (o := .lst ((List.range i).filterMap f ++ [z]))
      rw [mu_mu] at z2
      exact z2
    · rw [fm_succ, hz]; simp
    · exact hM.trans hM'
  · subst he
    exact hf D M hD hM
theorem fm_get {α β : Type} (h : Nat → α → Option β) : ∀ (ys : List α) (n : Nat), n ≤ ys.length → (List.range n).filterMap (fun i => ys[i]?.bind (h i)) = (ys.take n).zipIdx.filterMap (fun p => h p.2 p.1) := by
  intro ys n
  induction n with
  | zero => intro _; rfl
  | succ n ih =>
    intro hn
    rw [fm_succ, ih (by omega)]
    have e : ys[n]? = some ys[n] := List.getElem?_eq_getElem (by omega)
    rw [List.take_add_one, e, List.zipIdx_append, List.filterMap_append]
    congr 1
    simp
    rw [Nat.min_eq_left (by omega)]
    cases q : h n ys[n] <;> simp [q]
theorem fm_all {α β : Type} (h : α → Option β) (ys : List α) : (List.range ys.length).filterMap (fun i => ys[i]?.bind h) = ys.filterMap h := by
  rw [fm_get (fun _ => h) ys ys.length (Nat.le_refl _), List.take_length]
  rw [show ys.filterMap h = (ys.zipIdx.map Prod.fst).filterMap h by rw [List.zipIdx_map_fst]]
  rw [List.filterMap_map]
  rfl
/-- over the items of a sequence -/
theorem lc_seq {fin : Addr → List Y → Mu → (Y → Mu → Prop) → Prop} {y : Y} {ys : List Y} (h : Y → Option Y) (hn : ys.length ≤ 10000) (hy : ∀ p, y = .l p → m p ≠ none)
    (ht : ∀ z M, z ∈ ys → Mle m M → ∀ (C : Y → Mu → Prop) (N : Mu → Prop), (∀ x M', h z = some x → Mle M M' → C x M') → (∀ M', h z = none → Mle M M' → N M') → g z (wipeR r vs) M (fun r2 M2 => tt r2 M2 (fun b M3 => if b = true then te r2 M3 C P0 else N M3) P0))
    (hf : ∀ D M, m D = none → Mle (mu m D (.lst (ys.filterMap h))) M → fin D (ys.filterMap h) M F) : LcZ fin (wkSeq m y ys) g tt te vs r m F := by
  refine lc_go (k := wkSeq m y ys) (fun i => ys[i]?.bind h) hn (fun M hM p e => ?_) (fun i M hi hM C N hC hN => ?_) (fun D M hD hM => ?_)
  · cases q : m p with
    | none => exact absurd q (hy p e)
    | some o => exact hM p o q
  · have e : ys[i]? = some ys[i] := List.getElem?_eq_getElem hi
    refine ⟨ys[i], e, ?_⟩
    rw [e] at hC hN
    exact ht ys[i] M (List.getElem_mem _) hM C N hC hN
  · have ef := fm_all h ys
    show fin D ((List.range ys.length).filterMap _) M F
    have hM' : Mle (mu m D (.lst ((List.range ys.length).filterMap fun i => ys[i]?.bind h))) M := hM
    rw [ef] at hM' ⊢
    exact hf D M hD hM'
/-- over enumerate(a list): the places and items -/
theorem lc_enum {fin : Addr → List Y → Mu → (Y → Mu → Prop) → Prop} {y : Y} {ys : List Y} (h : Nat → Y → Option Y) (hn : ys.length ≤ 10000) (hy : ∀ p, y = .l p → m p ≠ none)
    (ht : ∀ i z M, ys[i]? = some z → Mle m M → ∀ (C : Y → Mu → Prop) (N : Mu → Prop), (∀ x M', h i z = some x → Mle M M' → C x M') → (∀ M', h i z = none → Mle M M' → N M') →
      mkT [.d (.int (i : Nat)), z] M (fun y M1 => g y (wipeR r vs) M1 (fun r2 M2 => tt r2 M2 (fun b M3 => if b = true then te r2 M3 C P0 else N M3) P0)))
    (hf : ∀ D M, m D = none → Mle (mu m D (.lst (ys.zipIdx.filterMap fun p => h p.2 p.1))) M → fin D (ys.zipIdx.filterMap fun p => h p.2 p.1) M F) : LcZ fin (wkEnum m y ys) g tt te vs r m F := by
  refine lc_go (k := wkEnum m y ys) (fun i => ys[i]?.bind (h i)) hn (fun M hM p e => ?_) (fun i M hi hM C N hC hN => ?_) (fun D M hD hM => ?_)
  · cases q : m p with
    | none => exact absurd q (hy p e)
    | some o => exact hM p o q
  · have e : ys[i]? = some ys[i] := List.getElem?_eq_getElem hi
    refine ⟨ys[i], e, ?_⟩
    rw [e] at hC hN
    exact ht i ys[i] M e hM C N hC hN
  · have ef := fm_get h ys ys.length (Nat.le_refl _)
    rw [List.take_length] at ef
    show fin D ((List.range ys.length).filterMap _) M F
    have hM' : Mle (mu m D (.lst ((List.range ys.length).filterMap fun i => ys[i]?.bind (h i)))) M := hM
    rw [ef] at hM' ⊢
    exact hf D M hD hM'
/-- the two ways in which a comprehension ends -/
theorem fin_d {D : Addr} {M : Mu} {acc : List Y} (ds : List PyData) (e : acc = ds.map Y.d) (hD : m D = none) (hM : Mle (mu m D (.lst acc)) M) (h : ∀ m', Mle m m' → F (.d (.list ds)) m') : finD D acc M F :=
  ⟨ds, e, h _ (((Mle.new hD).trans hM).drop hD)⟩
end
end Dl
namespace Dl
open PySem PySem.Spec PyProof.Rows L2 Evl
section
variable {X : Cx} {W : WX} {x : Str} {pos : Pos}
/-- a constant of the module, a built-in class -/
theorem de_gi {i : Int} (hg : Gl X x) (hm : ∃ t, X.mg x = some (.int i t)) (hd : (x == ("__debug__" : Str)) = false := by decide) : DE X W (.Name x pos) (xC (.d (.int i))) := by
  obtain ⟨t, hm⟩ := hm
  exact de_glob (v := V.int i) (u := Value.int i t) hg hm ⟨t, rfl⟩ (fun G => .d (Da.int i)) hd
theorem de_ty {T : String} (hg : Gl X x) (hm : X.mg x = none) (hb : bootBuiltins x = some (.type T)) (hn : x ≠ "__name__" := by decide) (hd : (x == ("__debug__" : Str)) = false := by decide) : DE X W (.Name x pos) (xC (.v (.ty T))) :=
  de_c (pe_bltn hg hm hb (v := V.ty T) rfl hn hd) fun G => .v (.ty T)
end
end Dl
/-! D12: objects that may change, read as deep data at one moment: ==. -/
namespace Dl
open PySem PySem.Spec PyProof.Rows L2 Evl
mutual
inductive DeepY (m : Mu) : Y → PyData → Prop
  | d (x : PyData) : DeepY m (.d x) x
  | l {p : Addr} {ys : List Y} {ds : List PyData} : m p = some (.lst ys) → DeepYs m ys ds → DeepY m (.l p) (.list ds)
  | t {p : Addr} {ys : List Y} {ds : List PyData} : m p = some (.tup ys) → DeepYs m ys ds → DeepY m (.l p) (.tuple ds)
inductive DeepYs (m : Mu) : List Y → List PyData → Prop
  | nil : DeepYs m [] []
  | cons {y : Y} {ys : List Y} {d : PyData} {ds : List PyData} : DeepY m y d → DeepYs m ys ds → DeepYs m (y :: ys) (d :: ds)
end
section
variable {X : Cx} {K : PySem.W.Frag} {G H : Hp} {m : Mu}
theorem rvs_nil {ws : List V} (h : RVs K G ws []) : ws = [] := by cases h; rfl
theorem rvs_uncons {ws : List V} {y : Y} {ys : List Y} (h : RVs K G ws (y :: ys)) : ∃ w ws', ws = w :: ws' ∧ RV K G w y ∧ RVs K G ws' ys := by
  cases h with
  | cons h t => exact ⟨_, _, rfl, h, t⟩
mutual
theorem DeepY.da (rh : Rh K G m H) : ∀ {y : Y} {d : PyData} {v : V}, DeepY m y d → RV K G v y → Da K H v d
  | _, _, _, .d x, rv => rv.da.mono rh.sub
  | _, _, _, .l h hs, rv => by
    obtain ⟨ws, e, q⟩ := rh.lst h
    cases rv.loc
    exact .lst (.inl e) (DeepYs.da rh hs q)
  | _, _, _, .t h hs, rv => by
    obtain ⟨ws, e, q⟩ := rh.tup h
    cases rv.loc
    exact .tup (SqT.of e) (DeepYs.da rh hs q)
theorem DeepYs.da (rh : Rh K G m H) : ∀ {ys : List Y} {ds : List PyData} {ws : List V}, DeepYs m ys ds → RVs K G ws ys → DaAll K H ws ds
  | _, _, _, .nil, r => by rw [rvs_nil r]; exact .nil
  | _, _, _, .cons h t, r => by
    obtain ⟨w, ws', rfl, r1, r2⟩ := rvs_uncons r
    exact .cons (DeepY.da rh h r1) (DeepYs.da rh t r2)
end
theorem DeepYs.len {ys : List Y} {ds : List PyData} (h : DeepYs m ys ds) : ys.length = ds.length := by
  induction ys generalizing ds with
  | nil => cases h; rfl
  | cons y ys ih =>
    cases h with
    | cons h t => exact congrArg Nat.succ (ih t)
/-- == of what may change, by the data that it is now -/
abbrev xEqL : XR := fun y z m F => ∃ a b, DeepY m y a ∧ DeepY m z b ∧ SeqAt.shaped a = true ∧ SeqAt.shaped b = true ∧ F (.d (.bool (PyData.eqv a b))) m
theorem opd_eqL (hu : X.A.units + 64 < cLine) : OpD X (compareOp .Eq) xEqL := by
  refine ⟨_, op_eqD hu, fun {G m H v w y z F Q} rh rv rw hx cv => ?_⟩
  obtain ⟨a, b, h1, h2, h3, h4, f⟩ := hx
  exact ⟨a, b, (h1.da rh rv).dp (shaped_lay h3), (h2.da rh rw).dp (shaped_lay h4), h3, h4, cv.at rh (.d (.bl _)) f⟩
abbrev xNeL : XR := fun y z m F => ∃ a b, DeepY m y a ∧ DeepY m z b ∧ SeqAt.shaped a = true ∧ SeqAt.shaped b = true ∧ F (.d (.bool !(PyData.eqv a b))) m
theorem opd_neL (hu : X.A.units + 64 < cLine) : OpD X (compareOp .NotEq) xNeL := by
  refine ⟨_, op_neD hu, fun {G m H v w y z F Q} rh rv rw hx cv => ?_⟩
  obtain ⟨a, b, h1, h2, h3, h4, f⟩ := hx
  exact ⟨a, b, (h1.da rh rv).dp (shaped_lay h3), (h2.da rh rw).dp (shaped_lay h4), h3, h4, cv.at rh (.d (.bl _)) f⟩
theorem eqv_nil : PyData.eqv (.list []) (.list []) = true := by simp [PyData.eqv, PyData.eqvAll]
theorem eqv_cons {d : PyData} {ds : List PyData} : PyData.eqv (.list (d :: ds)) (.list []) = false := by simp [PyData.eqv, PyData.eqvAll]
end
end Dl
/-! D13: rules that name the fragment K beside the context. -/
namespace Dl
open PySem PySem.Spec PyProof.Rows L2 Evl
section
variable {X : Cx} {W : WX} {e o : Expr} {es : List Expr} {pos : Pos} {t ta to : XE}
theorem kfld (K : PySem.W.Frag) {fn : Str} (he : DE X W e ta) (hb : attributeBase e fn X.env (eval e X.env) = eval e X.env := by rfl) (hK : X.K = K := by rfl) : DE X W (.Attribute e fn pos) (xFld K ta fn) := by
  subst hK; exact de_fld he hb
theorem kcon (K : PySem.W.Frag) {fn : Str} (he : DE X W e ta) (hb : attributeBase e fn X.env (eval e X.env) = eval e X.env := by rfl) (hK : X.K = K := by rfl) : DE X W (.Attribute e fn pos) (xCon K ta fn) := by
  subst hK; exact de_con he hb
theorem ksetF (K : PySem.W.Frag) {fn : Str} {pos' : Pos} (ho : DE X W o to) (hv : DE X W e t) (hs : swapsWith e (some (.Attribute o fn pos')) pos.line X.env = pure false := by rfl) (hK : X.K = K := by rfl) : DS X W (.Assign [.Attribute o fn pos'] e pos) (xSetF K to t fn) := by
  subst hK; exact ds_setF ho hv hs
theorem kisi (K : PySem.W.Frag) (hK : X.K = K := by rfl) : CallD X (.builtin "isinstance") (xIsi K) := by
  subst hK; exact cd_isi
theorem ktry (K : PySem.W.Frag) {x : Str} {c : Value} {body suite : List Stmt} {b0 : Stmt} {np pos' : Pos} {tb ts : XS} (hs : X.stack = X.env :: X.outer) (hf : X.env.frame = some X.env.locals) (hc : Names X x c) (tk : Takes X W)
    (hb : ∀ (W' : WX) (pn : List (Addr × Obj)) (xe : Value → Shared → Prop), Takes (X.tr pn xe) W' → PassesOwn (model X.prog X.w) X.A X.env xe → DSs (X.tr pn xe) W' body tb)
    (hsu : ∀ (a : Addr) (oe : Obj) (cls : Value) (d : Option Addr) (pn : List (Addr × Obj)), Zc cls d oe → (∃ vs, oe.data = .fields vs) → DSs (X.suite a ((a, oe) :: pn)) W0 (b0 :: suite) ts) (hK : X.K = K := by rfl) :
    DS X W (.Try body [.ExceptHandler (some (.Name x np)) none (b0 :: suite) pos'] [] [] pos) (xTry K c tb ts) := by
  subst hK; exact ds_try hs hf hc tk hb hsu
end
/-- an exception class of the program's own over ValueError, known by its name -/
structure XcF (K : PySem.W.Frag) (mg : Str → Option Value) (x : Str) (C : Addr) : Prop where
  q : PySem.W.excIn K C [.type "ValueError", .type "Exception", .type "BaseException", .type "object"] "ValueError.__new__" = true
  gC : mg x = some (.ref C)
  kC : PySem.W.keepIn K (.ref C) = true
  s1 : PySem.W.subIn K (.ref C) (.type "BaseException") = some true
  s2 : PySem.W.typeIn K (.ref C) = some (.type "type")
  em : PySem.W.exmOne K (.ref C) (.ref C) = some true
theorem exm_own {K : PySem.W.Frag} {S : Addr} (h1 : PySem.W.subIn K (.ref S) (.type "BaseException") = some true) (h2 : PySem.W.isClsIn K S = true) (h3 : PySem.W.typeIn K (.ref S) = some (.type "type")) (h4 : PySem.W.subIn K (.ref S) (.ref S) = some true) : PySem.W.exmOne K (.ref S) (.ref S) = some true := by
  unfold PySem.W.isClsIn at h2
  unfold PySem.W.exmOne
  rw [h1]
  show PySem.W.kitCls K (.ref S) (.ref S) = some true
  unfold PySem.W.kitCls
  simp [h2, h3, h4]
section
variable {X : Cx} {W : WX} {e : Expr} {te : XE} {C : Addr} {x : Str}
theorem kraise {p pos pos' : Pos} (hc : X.calm = true) (tk : Takes X W) (F : XcF X.K X.mg x C) (hg : Gl X x) (he : DE X W e te) (hs : starEach [e] X.env = (false, eval e X.env) :: starEach [] X.env := by rfl) (hdb : (x == ("__debug__" : Str)) = false := by decide) : DS X W (.Raise (some (.Call (.Name x p) [e] [] pos)) none pos') (xRaise C te) :=
  ds_raise hc tk PySem.F.excBase_ValueError F.q F.gC F.kC (raises_own F.s1 F.s2) hg he hs hdb
theorem XcF.nm (F : XcF X.K X.mg x C) (hg : Gl X x) (hdb : (x == ("__debug__" : Str)) = false := by decide) : Names X x (.ref C) := ⟨hg, hdb, .inl F.gC⟩
end
end Dl
/-! D14: a method's body that says super(): a frame with the cell of its class. -/
namespace Dl
open PySem PySem.Spec PyProof.Rows L2 Evl
abbrev clsN : Str := "__class__"
theorem cells_acc : ∀ (ns : List (Str × NameKind)) (n : Nat) (acc : List (Str × Addr)), cellsFrom n ns acc = cellsFrom n ns [] ++ acc
  | [], _, _ => rfl
  | (x, k) :: r, n, acc => by
    rw [cellsFrom, cellsFrom]
    split
    · rw [cells_acc r (n + 1) ((x, n) :: acc), cells_acc r (n + 1) [(x, n)], List.append_assoc]
      rfl
    · exact cells_acc r n acc
theorem look_app {α : Type} {x : Str} {v : α} : ∀ {l r : List (Str × α)}, l.lookup x = some v → (l ++ r).lookup x = some v
  | [], _, h => by simp at h
  | (y, w) :: l, r, h => by
    rw [List.cons_append, List.lookup_cons]
    rw [List.lookup_cons] at h
    split at h
    · exact h
    · exact look_app h
/-- what a name is stored in does not depend on more cells behind -/
theorem store_more {env env' : Env} {x : Str} (v : Value) (hs : env.scope = env'.scope) (hl : env.locals = env'.locals) (hk : env'.kindOf x = some .local ∨ env'.kindOf x = some .cell ∧ ∃ c, env'.cells.lookup x = some c ∧ env.cells.lookup x = some c) (hf : env'.scope.kind = .function) : storeName env x v = storeName env' x v := by
  have hk2 : env.kindOf x = env'.kindOf x := by unfold Env.kindOf; rw [hs]
  unfold storeName
  rw [hk2, hs, hl]
  rcases hk with hk | ⟨hk, c, h1, h2⟩
  · rw [hk]
    simp [hf]
  · rw [hk]
    simp [hf, PySem.cellOf, h1, h2]
section
variable {M : Model} {A : Around} {E : Value → Shared → Prop} {s : Shared} {scope : Scope} {globals : Addr} {binds : List (Str × Value)} {qual : Str} {func : Option Addr} {code : Value} {builtins : Addr} {cl : List (Str × Addr)} {Q : Env → Shared → Prop}
theorem newFn_cl (hk : scope.kind = .function) (hb : ∀ y ∈ binds, scope.names.lookup y.1 = some .local ∨ scope.names.lookup y.1 = some .cell ∧ ((cellsFrom (s.heap.objs.size + 1) scope.names []).lookup y.1).isSome = true)
    (h : ∀ s', InCallC s s.heap.objs.size (bindL (fun x => scope.names.lookup x) binds fun _ => none) (cellsFrom (s.heap.objs.size + 1) scope.names []) (bindC (fun x => scope.names.lookup x) binds fun _ => none) s' →
      Q (newEnv scope s.heap.objs.size globals (cellsFrom (s.heap.objs.size + 1) scope.names [] ++ cl) qual func code none builtins) s') : wpAny M A (newFunctionEnv scope globals cl binds qual func code none builtins) Q E s := by
  have hz : (s.heap.push { cls := Value.type "frame", data := Data.dict #[] }).objs.size = s.heap.objs.size + 1 := Heap.size_push _ _
  have I0 : InCallC s s.heap.objs.size (fun _ => none) (cellsFrom (s.heap.objs.size + 1) scope.names []) (fun _ => none) { heap := pushCells (s.heap.push { cls := Value.type "frame", data := Data.dict #[] }) scope.names, gens := s.gens, drawn := s.drawn, toks := s.toks, os := s.os } := by
    have ck := cellsFrom_ok scope.names (s.heap.push { cls := Value.type "frame", data := Data.dict #[] }) (s.heap.objs.size + 1) [] ⟨(fun _ _ h => by simp at h), .nil⟩ (by rw [hz]; exact Nat.le_refl _)
    rw [hz] at ck
    refine ⟨⟨⟨_, _, rfl⟩, (Heap.Ns.new s.heap _).keeps fun b o e => pushCells_keeps _ _ b o e, fun b o e => pushCells_keeps _ _ b o (Heap.get?_push_of_some _ e), Nat.le_refl _⟩, fun n c e => (ck.empty n c (mem_of_lookup e)).1, ck.apart, fun n c e => (ck.empty n c e).2⟩
  have hsome : ∀ {x : Str}, ((cellsFrom (s.heap.objs.size + 1) scope.names []).lookup x).isSome = true → ∃ c, (cellsFrom (s.heap.objs.size + 1) scope.names []).lookup x = some c ∧ (cellsFrom (s.heap.objs.size + 1) scope.names [] ++ cl).lookup x = some c := fun {x} hh => by
    obtain ⟨c, hc⟩ := Option.isSome_iff_exists.mp hh
    exact ⟨c, hc, look_app hc⟩
  have loop : ∀ (env env' : Env), env.scope = env'.scope → env.locals = env'.locals → env'.scope.kind = .function → ∀ (bs : List (Str × Value)), (∀ y ∈ bs, env'.kindOf y.1 = some .local ∨ env'.kindOf y.1 = some .cell ∧ ∃ c, env'.cells.lookup y.1 = some c ∧ env.cells.lookup y.1 = some c) →
      (forIn bs PUnit.unit fun (x : Str × Value) (_ : PUnit) => (do storeName env x.1 x.2; pure (ForInStep.yield PUnit.unit) : Sem (ForInStep PUnit))) = forIn bs PUnit.unit fun (x : Str × Value) (_ : PUnit) => (do storeName env' x.1 x.2; pure (ForInStep.yield PUnit.unit)) := by
    intro env env' e1 e2 e3 bs
    induction bs with
    | nil => intro _; rfl
    | cons y bs ih =>
      intro hbs
      rw [List.forIn_cons, List.forIn_cons, store_more y.2 e1 e2 (hbs y (by simp)) e3]
      congr 1
      funext r
      cases r with
      | done b => rfl
      | yield b => exact ih fun z hz => hbs z (by simp [hz])
  unfold newFunctionEnv
  refine wpAny_bind (wpAny_alloc ?_)
  refine wpAny_bind (wpAny_layCells _ (fun _ _ _ => rfl) scope.names cl _ _ ?_)
  generalize hc : cellsFrom _ scope.names cl = cells
  have hc2 : cells = cellsFrom (s.heap.objs.size + 1) scope.names [] ++ cl := by
    rw [← hc]
    exact (congrArg (fun n => cellsFrom n scope.names cl) hz).trans (cells_acc _ _ _)
  subst hc2
  clear hc
  refine wpAny_bind ?_
  have e := loop { scope := scope, locals := s.heap.objs.size, globals := globals, cells := cellsFrom (s.heap.objs.size + 1) scope.names [] ++ cl, qual := qual, func := func, code := code, frame := some s.heap.objs.size, builtins := builtins }
    { scope := scope, locals := s.heap.objs.size, globals := globals, cells := cellsFrom (s.heap.objs.size + 1) scope.names [], qual := qual, func := func, code := code, frame := some s.heap.objs.size, builtins := builtins } rfl rfl hk binds (fun y hy => (hb y hy).imp id fun q => ⟨q.1, hsome q.2⟩)
  have go := wpAny_bindParams (M := M) (A := A) (E := E) (s₀ := s) (env := { scope := scope, locals := s.heap.objs.size, globals := globals, cells := cellsFrom (s.heap.objs.size + 1) scope.names [], qual := qual, func := func, code := code, frame := some s.heap.objs.size, builtins := builtins }) (fun (x : Str × Value) (_ : PUnit) => (do storeName { scope := scope, locals := s.heap.objs.size, globals := globals, cells := cellsFrom (s.heap.objs.size + 1) scope.names [], qual := qual, func := func, code := code, frame := some s.heap.objs.size, builtins := builtins } x.1 x.2; pure (ForInStep.yield PUnit.unit) : Sem (ForInStep PUnit))) (fun _ _ _ => rfl) hk binds (fun _ => none) (fun _ => none) _
    (fun _ s' => wpAny M A (pure (newEnv scope s.heap.objs.size globals (cellsFrom (s.heap.objs.size + 1) scope.names [] ++ cl) qual func code none builtins)) Q E s') I0 hb (fun s' x => wpAny_pure (h s' x))
  rw [← e] at go
  exact go
end
/-! ### the frame of such a method -/
def envS (qual : Str) (scope : Scope) (L f : Addr) (cd : Value) (cc : Addr) : Env :=
  { scope := scope, locals := L, globals := mainGlobals, cells := cellsFrom (L + 1) scope.names [] ++ [(clsN, cc)], qual := qual ++ Str.ofString ".<locals>.", func := some f, code := cd, frame := some L, builtins := builtinsNs }
abbrev cxS (P : Program) (w : World) (K : PySem.W.Frag) (mg : Str → Option Value) (base : Heap) (N : List Str) (qual : Str) (scope : Scope) (f : Addr) (cd : Value) (cc : Addr) (A : Around) (outer : List Env) (s : Shared) (H : Hp) (E : XK) : Cx :=
  { prog := P, w := w, K := K, mg := mg, base := base, A := A.deeper (envS qual scope s.heap.objs.size f cd cc), N := N, s_0 := s, H_0 := H, env := envS qual scope s.heap.objs.size f cd cc, outer := outer, stack := envS qual scope s.heap.objs.size f cd cc :: outer, ex := [],
    fn := fun x => !(x == clsN), calm := true, pn := [],
    xe := fun e s' => wpAny (model P w) (A.deeper (envS qual scope s.heap.objs.size f cd cc)) (leaving (envS qual scope s.heap.objs.size f cd cc) e) (fun _ s'' => L2.CX P w outer H s E e s'') (fun e' s'' => L2.CX P w outer H s E e' s'') s' }
/-- the scope without the class's cell -/
def less (sc : Scope) : Scope := { sc with names := sc.names.filter fun y => !(y.1 == clsN) }
theorem less_look (sc : Scope) {x : Str} (h : x ≠ clsN) : (less sc).names.lookup x = sc.names.lookup x := by
  unfold less
  show (sc.names.filter _).lookup x = _
  induction sc.names with
  | nil => rfl
  | cons y r ih =>
    obtain ⟨a, k⟩ := y
    by_cases e : a = clsN
    · subst e
      rw [List.filter_cons_of_neg (by simp), ih, List.lookup_cons]
      rw [show (x == clsN) = false by simpa using h]
    · rw [List.filter_cons_of_pos (by simpa using e), List.lookup_cons, List.lookup_cons, ih]
theorem less_cells : ∀ (ns : List (Str × NameKind)) (n : Nat) (acc : List (Str × Addr)), (∀ y ∈ ns, y.1 = clsN → y.2 ≠ .cell) → cellsFrom n (ns.filter fun y => !(y.1 == clsN)) acc = cellsFrom n ns acc
  | [], _, _, _ => rfl
  | (x, k) :: r, n, acc, h => by
    have hr := fun n acc => less_cells r n acc fun y hy => h y (by simp [hy])
    by_cases e : x = clsN
    · have hk := h (x, k) (by simp) e
      rw [List.filter_cons_of_neg (by simp [e]), hr, cellsFrom, if_neg (by simpa using hk)]
    · rw [List.filter_cons_of_pos (by simpa using e), cellsFrom, cellsFrom]
      split
      · exact hr _ _
      · exact hr _ _
theorem bindL_eq {k k' : Str → Option NameKind} : ∀ {bs : List (Str × Value)} {m : Str → Option Value}, (∀ y ∈ bs, k y.1 = k' y.1) → bindL k bs m = bindL k' bs m
  | [], _, _ => rfl
  | (x, v) :: r, m, h => by
    rw [bindL, bindL, h (x, v) (by simp)]
    exact bindL_eq fun y hy => h y (by simp [hy])
theorem bindC_eq {k k' : Str → Option NameKind} : ∀ {bs : List (Str × Value)} {m : Str → Option Value}, (∀ y ∈ bs, k y.1 = k' y.1) → bindC k bs m = bindC k' bs m
  | [], _, _ => rfl
  | (x, v) :: r, m, h => by
    rw [bindC, bindC, h (x, v) (by simp)]
    exact bindC_eq fun y hy => h y (by simp [hy])
structure SupScope (N ps : List Str) (sc : Scope) : Prop where
  fs : FnScope N ps (less sc)
  cls : sc.names.lookup clsN = some .free
  only : ∀ y ∈ sc.names, y.1 = clsN → y.2 ≠ .cell
  nin : clsN ∉ N
  pin : ∀ x ∈ ps, x ≠ clsN
section
variable {P : Program} {w : World} {K : PySem.W.Frag} {mg : Str → Option Value} {base : Heap} {N ps : List Str} {qual : Str} {scope : Scope} {f cc : Addr} {cd : Value} {A : Around} {outer : List Env} {s s1 : Shared} {H : Hp} {E : XK} {us : List Value} {vs : List V}
theorem inv_sup (S : SupScope N ps scope) (hA : A.handled = none) (e0 : Env0 P w K mg base A outer s H) (hl : vs.length = ps.length) (r : Vals vs us) {oc : Obj} {D : Value} (hcc : K.lookup cc = some oc) (hoc : oc.data = .cell (some D))
    (x : InCallC s s.heap.objs.size (bindL (fun x => scope.names.lookup x) (ps.zip us) fun _ => none) (cellsFrom (s.heap.objs.size + 1) scope.names []) (bindC (fun x => scope.names.lookup x) (ps.zip us) fun _ => none) s1) :
    L2.Inv (cxS P w K mg base N qual scope f cd cc A outer s H E) [] (L2.start N vs) H s1 := by
  have hps : ∀ y ∈ ps.zip us, scope.names.lookup y.1 = (less scope).names.lookup y.1 := fun y hy => (less_look scope (S.pin _ (List.of_mem_zip hy).1)).symm
  have hcs : ∀ n, cellsFrom n (less scope).names [] = cellsFrom n scope.names [] := fun n => less_cells _ _ _ S.only
  have x' : InCallC s s.heap.objs.size (bindL (envOfC qual (less scope) s.heap.objs.size f cd).kindOf (ps.zip us) fun _ => none) (cellsFrom (s.heap.objs.size + 1) (less scope).names []) (bindC (envOfC qual (less scope) s.heap.objs.size f cd).kindOf (ps.zip us) fun _ => none) s1 := by
    rw [hcs]
    have e1 := bindL_eq (k := fun x => scope.names.lookup x) (k' := fun x => (less scope).names.lookup x) (m := fun _ => none) hps
    have e2 := bindC_eq (k := fun x => scope.names.lookup x) (k' := fun x => (less scope).names.lookup x) (m := fun _ => none) hps
    rw [e1, e2] at x
    exact x
  have I := inv_start (CX := L2.CX P w) (P := P) (w := w) (K := K) (mg := mg) (base := base) (qual := qual) (f := f) (cd := cd) (E := E) S.fs hA e0 hl r x'
  have KX : K.In base := e0.mod.kin
  obtain ⟨hcs0, hH⟩ := e0.bs cc oc (KX _ _ hcc)
  have hlt : cc < s.heap.objs.size := by
    exact Heap.IsCell.lt (h := s.heap) (v := some D) ⟨oc, hcs0, hoc⟩
  have cellcc : s1.heap.IsCell cc (some D) := ⟨oc, x.toInCall.keep cc oc hcs0, hoc⟩
  have split : ∀ {y : Str} {c : Addr}, (cellsFrom (s.heap.objs.size + 1) scope.names [] ++ [(clsN, cc)]).lookup y = some c → (cellsFrom (s.heap.objs.size + 1) scope.names []).lookup y = some c ∨ y = clsN ∧ c = cc := by
    intro y c h
    cases q : (cellsFrom (s.heap.objs.size + 1) scope.names []).lookup y with
    | some c' =>
      rw [look_app q] at h
      exact .inl h
    | none =>
      have go : ∀ (l : List (Str × Addr)), l.lookup y = none → (l ++ [(clsN, cc)]).lookup y = [(clsN, cc)].lookup y := by
        intro l
        induction l with
        | nil => intro _; rfl
        | cons z l ih =>
          intro hn
          rw [List.lookup_cons] at hn
          rw [List.cons_append, List.lookup_cons]
          split at hn
          · cases hn
          · rw [ih hn]
      rw [go _ q, List.lookup_cons] at h
      split at h
      · rename_i e
        cases h
        exact .inr ⟨by simpa using e, rfl⟩
      · cases h
  have old : ∀ {y : Str} {c : Addr}, (cellsFrom (s.heap.objs.size + 1) scope.names []).lookup y = some c → s.heap.objs.size < c := fun h => x.above _ _ (mem_of_lookup h)
  have hc' : ∀ {y : Str} {c : Addr}, (cellsFrom (s.heap.objs.size + 1) scope.names []).lookup y = some c → (envOfC qual (less scope) s.heap.objs.size f cd).cells.lookup y = some c := fun {y c} h => by
    show (cellsFrom _ (less scope).names []).lookup y = some c
    rw [hcs]; exact h
  have hc2 : ∀ {y : Str} {c : Addr}, (envOfC qual (less scope) s.heap.objs.size f cd).cells.lookup y = some c → (cellsFrom (s.heap.objs.size + 1) scope.names []).lookup y = some c := fun {y c} h => by
    have h' : (cellsFrom (s.heap.objs.size + 1) (less scope).names []).lookup y = some c := h
    rw [hcs] at h'; exact h'
  have kd : ∀ {y : Str}, y ≠ clsN → (envOfC qual (less scope) s.heap.objs.size f cd).kindOf y = (envS qual scope s.heap.objs.size f cd cc).kindOf y := fun h => less_look scope h
  refine ⟨⟨I.ok.mod, I.ok.kind, rfl, rfl, Nat.le_refl _, ?_, ?_, ?_, fun _ => hA, ?_, .inr ⟨rfl, rfl⟩, (fun _ h => nomatch h), e0.bs, e0.bsz, (fun _ _ _ h => nomatch h), (fun _ h => nomatch h), e0.funs, e0.frf⟩, I.os, I.bare, I.base, ?_, ?_, I.free, ?_, I.pin, I.hok, I.len⟩
  · intro a b c h1 h2
    rcases split h1 with h1 | ⟨h1, e1⟩
    · rcases split h2 with h2 | ⟨h2, e2⟩
      · exact I.ok.inj a b c (hc' h1) (hc' h2)
      · exact absurd hlt (by rw [← e2]; exact Nat.not_lt.mpr (Nat.le_of_lt (old h1)))
    · rcases split h2 with h2 | ⟨h2, e2⟩
      · exact absurd hlt (by rw [← e1]; exact Nat.not_lt.mpr (Nat.le_of_lt (old h2)))
      · rw [h1, h2]
  · intro a h
    by_cases ea : a = clsN
    · subst ea
      show ∃ c, (cellsFrom (s.heap.objs.size + 1) scope.names [] ++ [(clsN, cc)]).lookup clsN = some c
      cases q : (cellsFrom (s.heap.objs.size + 1) scope.names []).lookup clsN with
      | some c => exact ⟨c, look_app q⟩
      | none =>
        refine ⟨cc, ?_⟩
        generalize cellsFrom (s.heap.objs.size + 1) scope.names [] = l at q
        induction l with
        | nil => rw [List.nil_append, List.lookup_cons]; simp
        | cons z l ih =>
          rw [List.lookup_cons] at q
          rw [List.cons_append, List.lookup_cons]
          split at q
          · cases q
          · rw [ih q]
    · obtain ⟨c, hcc2⟩ := I.ok.has a (by rw [← kd ea] at h; exact h)
      exact ⟨c, look_app (hc2 hcc2)⟩
  · intro a c h1 h2
    rcases split h2 with h2 | ⟨h2, e2⟩
    · have := old h2; exact Nat.le_of_lt this
    · subst h2; simp at h1
  · show Option.map _ A.frames = _
    rw [e0.frames]
    rfl
  · obtain ⟨m, h1, h2⟩ := I.loc
    refine ⟨m, h1, fun i y v e1 e2 e3 => ?_⟩
    have hy : y ≠ clsN := fun e => S.nin (e ▸ List.mem_of_getElem? e1)
    obtain ⟨u, ru, lk⟩ := h2 i y v e1 e2 (by
      have e4 : (less scope).names.lookup y = scope.names.lookup y := less_look scope hy
      show (less scope).names.lookup y = _ ∨ (less scope).names.lookup y = _ ∨ (less scope).names.lookup y = _
      rw [e4]
      exact e3)
    refine ⟨u, ru, ?_⟩
    rcases lk with ⟨k1, k2⟩ | ⟨k1, c, k2, k3⟩
    · exact .inl ⟨by rw [← kd hy]; exact k1, k2⟩
    · exact .inr ⟨by rw [← kd hy]; exact k1, c, look_app (hc2 k2), k3⟩
  · intro a c h
    rcases split h with h | ⟨h, e⟩
    · exact I.cell a c (hc' h)
    · subst e; exact ⟨_, cellcc⟩
  · intro a c h
    rcases split h with h | ⟨h, e⟩
    · exact I.freeC a c (hc' h)
    · subst e; exact hH
end
end Dl
/-! D15: super().m(..) as the first thing that a method does. -/
namespace Dl
open PySem PySem.Spec PyProof.Rows L2 Evl
/-- what is known of a method that says super() -/
structure SupFact (P : Program) (K : PySem.W.Frag) (f : Addr) (fd : FuncData) (cdv : Value) (cc D : Addr) : Prop where
  lk : ∃ oc od osl, K.lookup f = some ⟨oc, od, .func fd, osl⟩
  ar : ∃ ar, (fd.params.posonlyargs ++ fd.params.args).head? = some ar ∧ ar.arg = ("self" : Str)
  code : ∃ cda oc vs file tf, cdv = .ref cda ∧ K.lookup cda = some oc ∧ oc.data = .fields vs ∧ vs[2]? = some (.str file tf) ∧ (P.main.file == file) = true
  cell : ∃ o, K.lookup cc = some o ∧ o.data = .cell (some (.ref D))
  nosup : (P.main.scope.names.lookup ("super" : Str)).isSome = false
/-- what super() finds from the class D, of an instance of C -/
structure SupTo (K : PySem.W.Frag) (C D : Addr) (m : Str) (g : Addr) : Prop where
  hC : ∃ cd, PySem.W.clsIn K C = some cd
  hD : ∃ cd, PySem.W.clsIn K D = some cd
  sub : PySem.W.mroIn K C (.ref D) = some true
  at_ : PySem.W.ks_superIn K C D m = some (some (.ref g))
  fn : PySem.W.fnIn K g = true
  ty : PySem.W.typeIn K (.ref g) = some (.type "function")
  op : PySem.W.nsIn K cStatics "thirdparty.any" = some none
structure DEA (X : Cx) (W : WX) (bd : List Stmt) (e : Expr) (t : XE) : Prop where
  run : ∀ {G : Hp} {r : Ro} {m : Mu} {σ : L2.St} {H : Hp} {F : Y → Mu → Prop} {P : XP} {Q : VK}, Rs X.K G σ r → Rh X.K G m H → t r m F P → CvE X.K G F Q → CvX X.K G P (WEx W σ) →
    ∀ (pins : List (Addr × Obj)) (s : Shared), Inv X pins σ H s → PySem.wpAt (model X.prog X.w) X.A (.func bd X.env) (eval e X.env) (EP X pins σ Q) X.xe s
structure DSA (X : Cx) (W : WX) (bd : List Stmt) (st : Stmt) (t : XS) : Prop where
  run : ∀ {G : Hp} {r : Ro} {m : Mu} {σ : L2.St} {H : Hp} {D : DEnds} {E : Ends}, Rs X.K G σ r → Rh X.K G m H → t D r m → Fits X.K W G D E →
    ∀ (pins : List (Addr × Obj)) (s : Shared), Inv X pins σ H s → PySem.wpAt (model X.prog X.w) X.A (.func bd X.env) (exec st X.env) (SP X pins E) X.xe s
structure DSsA (X : Cx) (W : WX) (bd : List Stmt) (sts : List Stmt) (t : XS) : Prop where
  run : ∀ {G : Hp} {r : Ro} {m : Mu} {σ : L2.St} {H : Hp} {D : DEnds} {E : Ends}, Rs X.K G σ r → Rh X.K G m H → t D r m → Fits X.K W G D E →
    ∀ (pins : List (Addr × Obj)) (s : Shared), Inv X pins σ H s → PySem.wpAt (model X.prog X.w) X.A (.func bd X.env) (execs sts X.env) (SP X pins E) X.xe s
section
variable {X : Cx} {W : WX} {bd : List Stmt} {e : Expr} {es : List Expr} {st : Stmt} {sts : List Stmt} {pos : Pos} {t : XE} {u u' : XS} {ta : XA}
theorem dssA_of (h : DSs X W sts u) : DSsA X W bd sts u := ⟨fun rs rh hx f pins s I => wpAt_of_wpAny (h.run rs rh hx f pins s I)⟩
theorem dssA_cons (h1 : DSA X W bd st u) (h2 : DSs X W sts u') : DSsA X W bd (st :: sts) (xSeq u u') := ⟨fun {G r m σ H D E} rs rh hx f pins s I => by
  refine ks_wpAt_execs_cons (ks_wpAt_mono (h1.run (D := { D with nx := u' D }) (E := { E with nx := SSts X sts E }) rs rh hx (f.nx_of fun σ1 r1 G1 m1 H1 e1 rs1 rh1 q => h2.run rs1 rh1 q (f.mono e1)) pins s I) (fun fl s' q => ?_) fun _ _ q => q)
  match fl, q with
  | .next, ⟨σ', H', J, q⟩ => exact wpAt_of_wpAny (q pins s' J)
  | .ret u, q => exact q
  | .brk, q => exact q
  | .cont, q => exact q⟩
theorem dssA_one (h1 : DSA X W bd st u) : DSsA X W bd [st] u := ⟨fun {G r m σ H D E} rs rh hx f pins s I => by
  have h := (dssA_cons h1 (dss_nil (X := X) (W := W))).run (D := D) (E := E) (G := G) (r := r) (m := m) (σ := σ) (H := H) rs rh (by
    show u { D with nx := xNext D } r m
    exact hx) f pins s I
  exact h⟩
theorem dsA_ret (h : DEA X W bd e t) : DSA X W bd (.Return (some e) pos) (xRet t) := ⟨fun {G r m σ H D E} rs rh hx f pins s I =>
  ks_wpAt_Return_some (ks_wpAt_mono (h.run rs rh hx (fun v y G1 m1 H1 e1 rh1 rv1 q => f.rt v y G1 m1 H1 e1 rh1 rv1 q) (f.cx rs) pins s I) (fun v s' ⟨x, H', J, rx, q⟩ => ⟨x, σ, H', J, rx, q⟩) fun _ _ q => q)⟩
theorem dsA_set {i : Nat} {x : Str} {pos' : Pos} (hN : X.N.Nodup) (hi : X.N[i]? = some x) (hx : Loc X.env.scope x) (he : DEA X W bd e t) (hs : swapsWith e (some (.Name x pos')) pos.line X.env = pure false := by rfl) (hf : X.fn x = true ∨ X.env.scope.names.lookup x = some .local := by first | exact .inl rfl | exact .inr rfl | assumption) :
    DSA X W bd (.Assign [.Name x pos'] e pos) (xAsg t (xgName i)) := ⟨fun {G r m σ H D E} rs rh hx' f pins s I =>
  ks_wpAt_Assign_Name (ks_wpAt_mono (he.run rs rh hx' (Q := fun v H1 => E.nx (σ.set i (some v)) H1) (fun v y G1 m1 H1 e1 rh1 rv1 q => f.nx _ _ G1 m1 H1 e1 ((rs.mono e1).set rv1 i) rh1 q) (f.cx rs) pins s I) (fun v s' ⟨x, H', J, rx, q⟩ => store_ok J hN hi hx rx (fun s2 J2 => ⟨_, _, J2, q⟩) hf) fun _ _ q => q) hs⟩
/-- super().m(..): the def at g, of the same object -/
abbrev xSup (C : Addr) (i : Nat) (d : DSp) (ta : XA) : XE := fun r m F P => ∃ a dx gs, r[i]? = some (some (.l a)) ∧ m a = some (.ins C dx gs) ∧ ta r m (fun ys m1 => d (.l a :: ys) m1 F P) P
section
variable {i k : Nat} {f g cc C D : Addr} {fd fdg : FuncData} {cdv : Value} {mn : Str} {p0 p1 apos : Pos} {ps : List Str} {d : DSp}
theorem sup_base {pl : Sem Bool} {args : List Expr} (hsup : Gl X "super") (hms : X.mg "super" = none) (hcl : X.env.kindOf clsN = some .free) (hmn : (mn == clsN) = false) (hfu : X.env.func = some f) (hcd : X.env.code = cdv) (S : SupFact X.prog X.K f fd cdv cc D) (hcc : X.env.cells.lookup clsN = some cc)
    (hsf : X.N[i]? = some ("self" : Str)) (hv : Vis X.env.scope "self") (T : SupTo X.K C D mn g) {pins : List (Addr × Obj)} {s : Shared} {σ : L2.St} {H : Hp} (I : Inv X pins σ H s) {a dx : Addr} {fs : List (Str × V)} (hσ : σ[i]? = some (some (.ref a))) (ha : H a = some (.ins C dx fs)) {Q : Value → Shared → Prop}
    (k : ∀ q s1, Inv X pins σ H s1 → s1.heap.get? q = some (PySem.W.methodObj (.ref g) (.ref a)) → (H q = none ∧ q ≠ X.env.locals ∧ ¬ q ∈ X.fs) → wpAny (model X.prog X.w) X.A (callWith pos (.ref q) [] (backTo pos (starEach args X.env)) []) Q X.xe s1)
    (ht : eval (.Call (.Attribute (.Call (.Name "super" p0) [] [] p1) mn apos) args [] pos) X.env = (attributeBase (.Call (.Name "super" p0) [] [] p1) mn X.env (eval (.Call (.Name "super" p0) [] [] p1) X.env) >>= fun ov => standAt apos.atName >>= fun _ => holding [ov] (getMethod ov mn pl) >>= fun z =>
      callWith pos z.1 z.2 (backTo pos (starEach args X.env)) [])) :
    PySem.wpAt (model X.prog X.w) X.A (.func bd X.env) (eval (.Call (.Attribute (.Call (.Name "super" p0) [] [] p1) mn apos) args [] pos) X.env) Q X.xe s := by
  obtain ⟨oc, od, osl, hlk⟩ := S.lk
  obtain ⟨ar, har, hself⟩ := S.ar
  obtain ⟨cda, ocd, vs, file, tf, rfl, hcda, hvs, hfile, hff⟩ := S.code
  obtain ⟨ocl, hcell, hcv⟩ := S.cell
  obtain ⟨cdC, hC⟩ := T.hC
  obtain ⟨cdD, hD⟩ := T.hD
  have KX := I.kIn
  refine ks_wpAt_MethodCall (pl := pl) (ks_wpAt_super_base hsup hcl hmn hfu (KX _ _ hlk) rfl har hcd (KX _ _ hcda) hvs hfile hff S.nosup ?_) ht
  have hkind := I.ok.kind
  obtain ⟨mb, hmb, hbb⟩ := I.mod.blt
  refine PySem.W.ks_loadName_global hkind hsup (Calls.loadGlobal_builtin (mg := X.mg) (mb := mb) (v := .type "super") (by rw [I.ok.glob]; exact I.mod.glob.keeps I.bk) hms (by rw [I.ok.blt]; exact hmb.keeps I.bk) ((hbb _ (by decide)).trans Boot.super) ⟨rfl, ?_⟩)
  refine wpAny_loadName_free hkind hcl hcc ⟨ocl, KX _ _ hcell, hcv⟩ ?_
  have hD' : ∃ oD, X.K.lookup D = some oD ∧ oD.data = .cls cdD := by
    unfold PySem.W.clsIn at hD
    split at hD
    · rename_i heq
      cases hD
      exact ⟨_, heq, rfl⟩
    · cases hD
  obtain ⟨oD, hoD, hdD⟩ := hD'
  obtain ⟨mA, O, _, _, _, _⟩ := ins_get I.hok ha
  obtain ⟨odx, J, _⟩ := O.look
  have after : wpAny (model X.prog X.w) X.A (PySem.isType (.ref D)) (fun b s4 => b = true ∧ wpAny (model X.prog X.w) X.A (call (.type "super") [.ref D, .ref a]) (fun ov s₁ => wpAny (model X.prog X.w) X.A (getMethod ov mn pl) (fun fx s₂ => wpAny (model X.prog X.w) X.A (callWith pos fx.fst fx.snd (backTo pos (starEach args X.env)) []) Q X.xe s₂) X.xe s₁) X.xe s4) X.xe s := by
    refine ks_wpAny_isType_cls (KX _ _ hoD) hdD ⟨rfl, ?_⟩
    refine ks_wpAny_call_super (KX _ _ hoD) hdD J.at_ J.cls (fun c hc => ?_) (PySem.W.looks_mroIn KX T.sub) fun h' hso keep => ?_
    · have := J.no
      unfold PySem.W.notCls at this
      rw [hc] at this
      cases this
    · have I1 := I.kept (t' := s.toks) keep
      have l1 : PySem.W.Looks (model X.prog X.w) h' (mroOf (.ref C)) cdC.mro := by
        intro A' Q' E' s' hk hq
        show wpAny _ _ (classData C >>= fun c => pure c.mro) _ _ _
        exact wpAny_bind (PySem.W.looks_clsIn (I1.kIn) hC A' _ E' s' hk (wpAny_pure hq))
      have halong : PySem.W.alongIn X.K mn (List.drop 1 (List.dropWhile (fun x => x != Value.ref D) cdC.mro)) = some (some (.ref g)) := by
        have h := T.at_
        unfold PySem.W.ks_superIn at h
        rw [hC] at h
        exact h
      have hty := T.ty
      have hg : ∃ og, X.K.lookup g = some og ∧ og.cls = .type "function" := by
        unfold PySem.W.typeIn at hty
        obtain ⟨og, h1, h2⟩ := Option.map_eq_some_iff.mp hty
        exact ⟨og, h1, h2⟩
      obtain ⟨og, hog, hgc⟩ := hg
      refine ks_wpAny_getMethod_super (K := X.K) hso (PySem.W.looks_opaque I1.kIn T.op) l1 rfl I1.kIn halong (I1.kIn _ _ hog) hgc (PySem.W.ks_ne KX J hC) hmn ?_
      have I2 := I1.kept (h' := h'.push { cls := Value.type "method", data := Data.fields #[Value.ref g, Value.ref a] }) (t' := s.toks + 1) fun b o e => Heap.get?_push_of_some _ e
      exact k _ _ I2 (Heap.get?_push_size _ rfl) ⟨I1.fresh, Nat.ne_of_gt I1.lt, I1.nofs (Nat.le_refl _)⟩
  obtain ⟨m, hm, hlook⟩ := I.loc
  obtain ⟨u, ru, lk⟩ := hlook i "self" (.ref a) hsf hσ hv
  obtain rfl : u = Value.ref a := ru
  rw [hself]
  rcases lk with ⟨k1, k2⟩ | ⟨k1 | k1, c, k2, k3⟩
  · exact wpAny_loadName_local hkind k1 hm k2 after
  · exact wpAny_loadName_cell hkind k1 k2 k3 after
  · exact wpAny_loadName_free hkind k1 k2 k3 after
theorem run_b {pins : List (Addr × Obj)} {σ : L2.St} {H : Hp} {s : Shared} {Q : VK} {us : List Value} {vs : List V} {a q : Addr} (F : FnD X.prog X.w X.K X.mg X.base k g fdg ps d) (hr : Room k X.A) (hg : X.A.guards = some []) (hb : Binds X.K fdg ps [])
    (tk : Takes X W) (I : Inv X pins σ H s) (r : Vals vs us) (h : cz X.K d (.ref a :: vs) H Q (WEx W σ)) (hq : s.heap.get? q = some (PySem.W.methodObj (.ref g) (.ref a))) : wpAny (model X.prog X.w) X.A (call (.ref q) us) (EP X pins σ Q) X.xe s := by
  have rr : Vals (V.ref a :: vs) (Value.ref a :: us) := .cons rfl r
  have hl : ((Value.ref a :: us) ++ []).length = ps.length := by
    obtain ⟨G, m, ys, F', P, _, q2, q3, _⟩ := id h
    rw [List.append_nil, ← rr.length, RVs.length q2]
    exact F.len _ _ _ _ q3
  have hbs := hb s (Value.ref a :: us) I.kIn hl
  rw [List.append_nil] at hbs
  refine wpAny_call (ks_codeAny_call_bound (a := ⟨us, []⟩) hq (codeAny_mono (F.run X.A X.stack s H ⟨Value.ref a :: us, []⟩ (Value.ref a :: us) (V.ref a :: vs) Q (WEx W σ) hg hr I.env0 hbs rr h) fun z s' hz => ?_))
  match z, hz with
  | .error e, hz => exact passAt tk σ pins H s e s' I hz
  | .ok (.ret u), hz => exact I.after hz
  | .ok .next, hz => exact False.elim hz
  | .ok .brk, hz => exact False.elim hz
  | .ok .cont, hz => exact False.elim hz
theorem pin_in {pins : List (Addr × Obj)} {s : Shared} {σ : L2.St} {H : Hp} {q : Addr} {o : Obj} (I : Inv X pins σ H s) (h : s.heap.get? q = some o) (hn : H q = none ∧ q ≠ X.env.locals ∧ ¬ q ∈ X.fs) (hc : ∀ v : Option Value, o.data ≠ .cell v) : Inv X ((q, o) :: pins) σ H s :=
  ⟨I.ok, I.os, I.bare, I.base, I.loc, I.cell, I.free, I.freeC, fun p hp => by
    rcases List.mem_append.mp hp with hp | hp
    · exact I.pin p (List.mem_append.mpr (.inl hp))
    · rcases List.mem_cons.mp hp with rfl | hp
      · exact ⟨h, hn.1, hn.2.1, hn.2.2, hc⟩
      · exact I.pin p (List.mem_append.mpr (.inr hp)), I.hok, I.len⟩
theorem pin_out {pins : List (Addr × Obj)} {s : Shared} {σ : L2.St} {H : Hp} {z : Addr × Obj} (I : Inv X (z :: pins) σ H s) : Inv X pins σ H s ∧ s.heap.get? z.1 = some z.2 :=
  ⟨⟨I.ok, I.os, I.bare, I.base, I.loc, I.cell, I.free, I.freeC, fun p hp => by
    rcases List.mem_append.mp hp with hp | hp
    · exact I.pin p (List.mem_append.mpr (.inl hp))
    · exact I.pin p (List.mem_append.mpr (.inr (List.mem_cons_of_mem _ hp))), I.hok, I.len⟩, (I.pin z (List.mem_append.mpr (.inr (by simp)))).1⟩
theorem dea_sup {pl : Sem Bool} (hsup : Gl X "super") (hms : X.mg "super" = none) (hcl : X.env.kindOf clsN = some .free) (hfu : X.env.func = some f) (hcd : X.env.code = cdv) (S : SupFact X.prog X.K f fd cdv cc D) (hcc : X.env.cells.lookup clsN = some cc)
    (hsf : X.N[i]? = some ("self" : Str)) (hv : Vis X.env.scope "self") (T : SupTo X.K C D mn g) (F : FnD X.prog X.w X.K X.mg X.base k g fdg ps d) (hr : Room k X.A) (hgd : X.A.guards = some []) (tk : Takes X W) (hb : Binds X.K fdg ps []) (ha : DA X W (e :: es) ta) (hmn : (mn == clsN) = false := by decide)
    (hst : starEach (e :: es) X.env = (false, eval e X.env) :: starEach es X.env := by rfl) (hpl : (((backTo pos (starEach (e :: es) X.env)).any fun x => x.fst) || ([] : List (Option Str × Sem Value)).any fun x => x.fst.isNone) = false := by rfl)
    (ht : eval (.Call (.Attribute (.Call (.Name "super" p0) [] [] p1) mn apos) (e :: es) [] pos) X.env = (attributeBase (.Call (.Name "super" p0) [] [] p1) mn X.env (eval (.Call (.Name "super" p0) [] [] p1) X.env) >>= fun ov => standAt apos.atName >>= fun _ => holding [ov] (getMethod ov mn pl) >>= fun z =>
      callWith pos z.1 z.2 (backTo pos (starEach (e :: es) X.env)) []) := by rfl) :
    DEA X W bd (.Call (.Attribute (.Call (.Name "super" p0) [] [] p1) mn apos) (e :: es) [] pos) (xSup C i d ta) := ⟨fun {G r m σ H F' P Q} rs rh hx cv cx pins s I => by
  obtain ⟨a, dx, gs, hra, hma, hx⟩ := hx
  obtain ⟨w, hσ, rw'⟩ := rs.get hra
  cases rw'.loc
  obtain ⟨fs, hH, hf⟩ := rh.ins hma
  have ha' := ha.run (Q := fun vs H1 => cz X.K d (.ref a :: vs) H1 Q (WEx W σ)) rs rh hx (fun vs ys G1 m1 H1 e1 rh1 rv1 q1 => ⟨G1, m1, .l a :: ys, F', P, rh1, .cons (.l a) rv1, q1, cv.mono e1, cx.mono e1⟩) cx
  refine sup_base hsup hms hcl hmn hfu hcd S hcc hsf hv T I hσ hH (fun q s1 I1 hq hn => ?_) ht
  have I2 := pin_in I1 hq hn (fun v h => by cases h)
  refine PySem.W.callWith_of (P := PySem.W.MethP X.K q g (.ref a)) hpl (PySem.W.keeps_M T.fn) ?_
  refine PyProof.Rows.evalArgs_kw2 (kws := []) rfl (thn (ha' pos _ s1 I2) fun us s2 ⟨vs, H2, I3, r2, q2⟩ => ?_) hst
  obtain ⟨I4, hq4⟩ := pin_out I3
  exact wpAny_pure ⟨⟨hq4, I4.kIn⟩, run_b F hr hgd hb tk I4 r2 q2 hq4⟩⟩
theorem dea_sup0 {pl : Sem Bool} (hsup : Gl X "super") (hms : X.mg "super" = none) (hcl : X.env.kindOf clsN = some .free) (hfu : X.env.func = some f) (hcd : X.env.code = cdv) (S : SupFact X.prog X.K f fd cdv cc D) (hcc : X.env.cells.lookup clsN = some cc)
    (hsf : X.N[i]? = some ("self" : Str)) (hv : Vis X.env.scope "self") (T : SupTo X.K C D mn g) (F : FnD X.prog X.w X.K X.mg X.base k g fdg ps d) (hr : Room k X.A) (hgd : X.A.guards = some []) (tk : Takes X W) (hb : Binds X.K fdg ps []) (hmn : (mn == clsN) = false := by decide)
    (ht : eval (.Call (.Attribute (.Call (.Name "super" p0) [] [] p1) mn apos) [] [] pos) X.env = (attributeBase (.Call (.Name "super" p0) [] [] p1) mn X.env (eval (.Call (.Name "super" p0) [] [] p1) X.env) >>= fun ov => standAt apos.atName >>= fun _ => holding [ov] (getMethod ov mn pl) >>= fun z =>
      callWith pos z.1 z.2 (backTo pos (starEach [] X.env)) []) := by rfl) :
    DEA X W bd (.Call (.Attribute (.Call (.Name "super" p0) [] [] p1) mn apos) [] [] pos) (xSup C i d xNil) := ⟨fun {G r m σ H F' P Q} rs rh hx cv cx pins s I => by
  obtain ⟨a, dx, gs, hra, hma, hx⟩ := hx
  obtain ⟨w, hσ, rw'⟩ := rs.get hra
  cases rw'.loc
  obtain ⟨fs, hH, hf⟩ := rh.ins hma
  refine sup_base hsup hms hcl hmn hfu hcd S hcc hsf hv T I hσ hH (fun q s1 I1 hq hn => ?_) ht
  refine PySem.W.callWith_of (P := PySem.W.MethP X.K q g (.ref a)) rfl (PySem.W.keeps_M T.fn) ?_
  exact wpAny_pure ⟨⟨hq, I1.kIn⟩, run_b (us := []) (vs := []) F hr hgd hb tk I1 .nil ⟨G, m, [.l a], F', P, rh, .cons (.l a) .nil, hx, cv, cx⟩ hq⟩⟩
end
end

/-! ### such a def, by its body -/
structure SFun (P : Program) (K : PySem.W.Frag) (x qual : Str) (st : Stmt) (f : Addr) (fd : FuncData) (cdv : Value) (cc D : Addr) : Prop where
  ex : ∃ oc od kV doc pm an ct osl, fd = PySem.W.ksFn x qual (defArgs st) (defBody st) (defScope st) .none kV doc pm an cdv ct cc ∧ K.lookup f = some ⟨oc, od, .func fd, osl⟩ ∧ PySem.W.codeIn K cdv qual = true
  kp : PySem.W.keepIn K (.ref f) = true
  sf : SupFact P K f fd cdv cc D
section
variable {pr : Program} {w : World} {K : PySem.W.Frag} {mg : Str → Option Value} {base : Heap} {x qual : Str} {st : Stmt} {f cc D : Addr} {fd : FuncData} {cdv : Value} {N ps : List Str} {k : Nat} {d : DSp}
theorem SFun.dok (F : SFun pr K x qual st f fd cdv cc D) (S : SupScope N ps (defScope st)) (t : XS)
    (hb : ∀ (A : Around) (outer : List Env) (s : Shared) (H : Hp) (E : XK), Bx (cxS pr w K mg base N qual (defScope st) f cdv cc A outer s H E) (WE1 E) k → PassesOwn (model pr w) (cxS pr w K mg base N qual (defScope st) f cdv cc A outer s H E).A (cxS pr w K mg base N qual (defScope st) f cdv cc A outer s H E).env (cxS pr w K mg base N qual (defScope st) f cdv cc A outer s H E).xe →
      DSsA (cxS pr w K mg base N qual (defScope st) f cdv cc A outer s H E) (WE1 E) (defBody st) (defBody st) t)
    (vc : ∀ ys m F P, d ys m F P → ys.length = ps.length ∧ t { nx := fun _ m => F (.d .none) m, rt := F, ex := fun c fs _ m => P c fs m } (startY N ys) m) : FnD pr w K mg base (k + 1) f fd ps d := by
  obtain ⟨oc, od, kV, doc, pm, an, ct, osl, rfl, lk, hcd⟩ := F.ex
  obtain ⟨ocl, hcc, hoc⟩ := F.sf.cell
  refine ⟨fun ys m F P h => (vc ys m F P h).1, fun A outer s H args us vs Q E hg hr e0 hbd r hsp => ?_⟩
  obtain ⟨G, m, ys, Fy, P, rh, rv, hd, cv, cx⟩ := hsp
  obtain ⟨hl, hvc⟩ := vc ys m Fy P hd
  have hlv : vs.length = ps.length := by rw [RVs.length rv]; exact hl
  have KX : K.In s.heap := e0.mod.kin.keeps fun b o e => (e0.bs b o e).1
  have hkind : ∀ y ∈ ps.zip us, (defScope st).names.lookup y.1 = some .local ∨ ((defScope st).names.lookup y.1 = some .cell ∧ ((cellsFrom (s.heap.objs.size + 1) (defScope st).names []).lookup y.1).isSome = true) := by
    rintro ⟨n, v⟩ hy
    have hn := (List.of_mem_zip hy).1
    have q := S.fs.par n hn
    rw [less_look _ (S.pin n hn)] at q
    exact q.imp id fun q => ⟨q, PySem.W.cellsFrom_some _ _ _ (.inl q)⟩
  refine codeAny_call_function hr.depth (KX _ _ lk) rfl S.fs.co S.fs.gen rfl (PySem.W.codeRec_of KX hcd) (hbd _ _ _ _ ?_)
  refine newFn_cl S.fs.kind hkind fun s1 x => ?_
  refine ⟨(e0.mod.nolimit.keeps fun b o e => (e0.bs b o e).1).keeps x.toInCall.keep, ks_codeAny_funcAt ?_⟩
  have gd : (A.deeper (envS qual (defScope st) s.heap.objs.size f cdv cc)).guards = some [] := hg
  have hbx : Bx (cxS pr w K mg base N qual (defScope st) f cdv cc A outer s H E) (WE1 E) k := ⟨hr.deeper _, gd, takes_of rfl rfl rfl rfl⟩
  have I := inv_sup (qual := qual) (f := f) (cd := cdv) (E := E) (N := N) S hr.hd e0 hlv r hcc hoc x
  have go := (hb A outer s H E hbx (passes_of rfl)).run (E := { nx := fun _ H' => Q .non H', rt := Q }) (start_rs (N := N) rv) rh hvc
    ⟨fun σ r G' m H' e1 _ rh1 q => cv .non _ G' m H' e1 rh1 (.d .non) q, fun v y G' m H' e1 rh1 rv1 q => cv v y G' m H' e1 rh1 rv1 q, fun _ _ _ _ _ _ _ _ q => q.elim, fun _ _ _ _ _ _ _ _ q => q.elim,
      fun c d fs σ r G' m H' e1 _ rh1 xf q => cx c d fs G' m H' e1 rh1 xf q⟩ [] s1 I
  have fin : ∀ {s' : Shared} {σ' : L2.St} {H' : Hp} {v : V} {u : Value}, Inv (cxS pr w K mg base N qual (defScope st) f cdv cc A outer s H E) [] σ' H' s' → RelV v u → Q v H' → CE outer pr w H s Q u s' :=
    fun J rv q => ⟨_, _, J.os, J.bare, J.base, J.hok, rv, q⟩
  refine ks_wpAt_mono go (fun fl s' hs => ?_) fun e s' hs => hs
  match fl, hs with
  | .ret u, ⟨v, σ', H', J, rv, q⟩ => exact fin J rv q
  | .next, ⟨σ', H', J, q⟩ => exact fin (v := V.non) (u := Value.none) J rfl q
  | .brk, ⟨_, _, _, q⟩ => exact False.elim q
  | .cont, ⟨_, _, _, q⟩ => exact False.elim q
end
end Dl
/-! D16: what is above, by what is known; one of several promises. -/
namespace Dl
open PySem PySem.Spec PyProof.Rows L2 Evl
section
variable {pr : Program} {w : World} {K : PySem.W.Frag} {mg : Str → Option Value} {base : Heap} {f : Addr} {fd : FuncData} {ps : List Str} {d d' : DSp} {k : Nat}
theorem FnD.or (F : FnD pr w K mg base k f fd ps d) (F' : FnD pr w K mg base k f fd ps d') : FnD pr w K mg base k f fd ps (fun ys m F P => d ys m F P ∨ d' ys m F P) := by
  refine ⟨fun ys m F1 P h => h.elim (F.len _ _ _ _) (F'.len _ _ _ _), fun A outer s H args us vs Q E hg hr e0 hb hv hc => ?_⟩
  obtain ⟨G, m, ys, F1, P, h1, h2, h3, h4, h5⟩ := hc
  rcases h3 with h3 | h3
  · exact F.run A outer s H args us vs Q E hg hr e0 hb hv ⟨G, m, ys, F1, P, h1, h2, h3, h4, h5⟩
  · exact F'.run A outer s H args us vs Q E hg hr e0 hb hv ⟨G, m, ys, F1, P, h1, h2, h3, h4, h5⟩
/-- the method that super() finds -/
structure UF (pr : Program) (w : World) (K : PySem.W.Frag) (mg : Str → Option Value) (base : Heap) (C D : Addr) (x : Str) (k : Nat) (g : Addr) (fd : FuncData) (ps : List Str) (d : DSp) : Prop where
  fn : FnD pr w K mg base k g fd ps d
  bn : Binds K fd ps []
  to : SupTo K C D x g
end
section
variable {X : Cx} {W : WX} {bd : List Stmt} {e : Expr} {es : List Expr} {pos : Pos} {t t' : XE} {ta : XA} {i j k : Nat} {f g cc C D : Addr} {fd fdg : FuncData} {cdv : Value} {mn : Str} {p0 p1 apos : Pos} {ps : List Str} {d : DSp}
theorem de_alt (h : DE X W e t) (h' : DE X W e t') : DE X W e (fun r m F P => t r m F P ∨ t' r m F P) := ⟨fun rs rh hx cv cx => by
  rcases hx with hx | hx
  · exact h.run rs rh hx cv cx
  · exact h'.run rs rh hx cv cx⟩
theorem dea_uf {pl : Sem Bool} (hms : X.mg "super" = none) (S : SupFact X.prog X.K f fd cdv cc D) (U : UF X.prog X.w X.K X.mg X.base C D mn k g fdg ps d) (hr : Room j X.A) (hgd : X.A.guards = some []) (tk : Takes X W) (ha : DA X W (e :: es) ta) (hk : k ≤ j := by decide)
    (hsup : Gl X "super" := by rfl) (hcl : X.env.kindOf clsN = some .free := by rfl) (hfu : X.env.func = some f := by rfl) (hcd : X.env.code = cdv := by rfl) (hcc : X.env.cells.lookup clsN = some cc := by rfl) (hsf : X.N[0]? = some ("self" : Str) := by rfl) (hv : Vis X.env.scope "self" := by first | exact .inl rfl | exact .inr (.inl rfl)) (hmn : (mn == clsN) = false := by decide)
    (hst : starEach (e :: es) X.env = (false, eval e X.env) :: starEach es X.env := by rfl) (hpl : (((backTo pos (starEach (e :: es) X.env)).any fun x => x.fst) || ([] : List (Option Str × Sem Value)).any fun x => x.fst.isNone) = false := by rfl)
    (ht : eval (.Call (.Attribute (.Call (.Name "super" p0) [] [] p1) mn apos) (e :: es) [] pos) X.env = (attributeBase (.Call (.Name "super" p0) [] [] p1) mn X.env (eval (.Call (.Name "super" p0) [] [] p1) X.env) >>= fun ov => standAt apos.atName >>= fun _ => holding [ov] (getMethod ov mn pl) >>= fun z =>
      callWith pos z.1 z.2 (backTo pos (starEach (e :: es) X.env)) []) := by rfl) :
    DEA X W bd (.Call (.Attribute (.Call (.Name "super" p0) [] [] p1) mn apos) (e :: es) [] pos) (xSup C 0 d ta) := dea_sup hsup hms hcl hfu hcd S hcc hsf hv U.to U.fn (hr.mono hk) hgd tk U.bn ha hmn hst hpl ht
theorem dea_uf0 {pl : Sem Bool} (hms : X.mg "super" = none) (S : SupFact X.prog X.K f fd cdv cc D) (U : UF X.prog X.w X.K X.mg X.base C D mn k g fdg ps d) (hr : Room j X.A) (hgd : X.A.guards = some []) (tk : Takes X W) (hk : k ≤ j := by decide)
    (hsup : Gl X "super" := by rfl) (hcl : X.env.kindOf clsN = some .free := by rfl) (hfu : X.env.func = some f := by rfl) (hcd : X.env.code = cdv := by rfl) (hcc : X.env.cells.lookup clsN = some cc := by rfl) (hsf : X.N[0]? = some ("self" : Str) := by rfl) (hv : Vis X.env.scope "self" := by first | exact .inl rfl | exact .inr (.inl rfl)) (hmn : (mn == clsN) = false := by decide)
    (ht : eval (.Call (.Attribute (.Call (.Name "super" p0) [] [] p1) mn apos) [] [] pos) X.env = (attributeBase (.Call (.Name "super" p0) [] [] p1) mn X.env (eval (.Call (.Name "super" p0) [] [] p1) X.env) >>= fun ov => standAt apos.atName >>= fun _ => holding [ov] (getMethod ov mn pl) >>= fun z =>
      callWith pos z.1 z.2 (backTo pos (starEach [] X.env)) []) := by rfl) :
    DEA X W bd (.Call (.Attribute (.Call (.Name "super" p0) [] [] p1) mn apos) [] [] pos) (xSup C 0 d xNil) := dea_sup0 hsup hms hcl hfu hcd S hcc hsf hv U.to U.fn (hr.mono hk) hgd tk U.bn hmn ht
/-- a, b, c = .. -/
abbrev xPar3 (i j l : Nat) (ta : XA) : XS := fun D r m => ta r m (fun ys m1 => ∃ y z w, ys = [y, z, w] ∧ D.nx (((r.set i (some y)).set j (some z)).set l (some w)) m1) (D.at r)
theorem rvs3 {K : PySem.W.Frag} {G : Hp} {vs : List V} {y z u : Y} (h : RVs K G vs [y, z, u]) : ∃ v w x, vs = [v, w, x] ∧ RV K G v y ∧ RV K G w z ∧ RV K G x u := by
  cases h with
  | cons h t =>
    obtain ⟨v, w, rfl, h1, h2⟩ := rvs2 t
    exact ⟨_, _, _, rfl, h, h1, h2⟩
theorem ds_par3 {i j l : Nat} {x y z : Str} {a b c : Expr} {tx : XA} {px py pz pt : Pos} {kt k2 pt2} (hc : X.calm = true) (hN : X.N.Nodup) (hi : X.N[i]? = some x) (hj : X.N[j]? = some y) (hl : X.N[l]? = some z) (hij : i ≠ j) (hil : i ≠ l) (hjl : j ≠ l)
    (hx : X.env.scope.names.lookup x = some .local) (hy : X.env.scope.names.lookup y = some .local) (hz : X.env.scope.names.lookup z = some .local) (ha : DA X W [a, b, c] tx)
    (hw : swappedStores [.Tuple [.Name x px, .Name y py, .Name z pz] kt pt] (.Tuple [a, b, c] k2 pt2) X.env = pure (some [x, y, z]))
    (hs : swapsWithSole [.Tuple [.Name x px, .Name y py, .Name z pz] kt pt] (.Tuple [a, b, c] k2 pt2) pos.line X.env = pure false := by rfl) :
    DS X W (.Assign [.Tuple [.Name x px, .Name y py, .Name z pz] kt pt] (.Tuple [a, b, c] k2 pt2) pos) (xPar3 i j l tx) := ⟨fun {G r m σ H D E} rs rh hx' f =>
  ss_of (ps_par3 hc hN hi hj hl hij hil hjl hx hy hz sa_pa hw hs) (ha.run rs rh hx' (fun vs ys G1 m1 H1 e1 rh1 rv1 ⟨y1, z1, w1, q, q2⟩ => by
    subst q
    obtain ⟨v, w, u, rfl, r1, r2, r3⟩ := rvs3 rv1
    exact ⟨v, w, u, rfl, f.nx _ _ G1 m1 H1 e1 ((((rs.mono e1).set r1 i).set r2 j).set r3 l) rh1 q2⟩) (f.cx rs))⟩
/-- int(flag) -/
abbrev xIntB : XRC := fun ys m F => ∃ b : Bool, ys = [.d (.bool b)] ∧ F (.d (.int (if b = true then 1 else 0))) m
theorem cd_int : CallD X (.type "int") xIntB := ⟨_, call_int1, fun {G m H vs ys F Q} rh rv hx cv => by
  obtain ⟨b, rfl, f⟩ := hx
  obtain ⟨v, rfl, r1⟩ := rvs1 rv
  refine .inr ⟨b, by rw [r1.bl], ?_⟩
  have := cv.at (v := V.int (if b = true then 1 else 0)) rh (.d (Da.int _)) f
  cases b <;> exact this⟩
end
end Dl
namespace Dl
open PySem PySem.Spec PyProof.Rows L2 Evl
theorem SFun.binds {P : Program} {K : PySem.W.Frag} {x qual : Str} {st : Stmt} {f cc D : Addr} {fd : FuncData} {cdv : Value} {ps : List Str} (F : SFun P K x qual st f fd cdv cc D)
    (h : ∀ (kV doc pm : Value) (an : Option Addr) (ct : Value) (us : List Value), us.length = ps.length → bindArgs (PySem.W.ksFn x qual (defArgs st) (defBody st) (defScope st) .none kV doc pm an cdv ct cc) { pos := us } = pure (ps.zip us)) : L2.Binds K fd ps [] := by
  obtain ⟨oc, od, kV, doc, pm, an, ct, osl, rfl, _, _⟩ := F.ex
  intro s us _ hl
  rw [List.append_nil] at hl ⊢
  exact .of_eq (h _ _ _ _ _ us hl)
end Dl
/-! D17: max of a list of pairs of whole numbers; a whole number in a tuple of them. -/
namespace Dl
open PySem PySem.Spec PyProof.Rows L2 Evl
section
variable {X : Cx} {W : WX} {K : PySem.W.Frag} {G H : Hp} {m : Mu}
def mxP (p : Int × Int) (ps : List (Int × Int)) : Int × Int := ps.foldl (fun a y => if PySem.W.dataLt (prD a) (prD y) = true then y else a) p
theorem mxP_data : ∀ (ps : List (Int × Int)) (p : Int × Int), PySem.W.maxD (prD p) (ps.map prD) = prD (mxP p ps)
  | [], _ => rfl
  | q :: ps, p => by
    show PySem.W.maxD (if PySem.W.dataLt (prD p) (prD q) = true then prD q else prD p) (ps.map prD) = prD (mxP (if PySem.W.dataLt (prD p) (prD q) = true then q else p) ps)
    rw [← mxP_data ps]
    congr 1
    split <;> rfl
theorem mxP_mem : ∀ (ps : List (Int × Int)) (p : Int × Int), mxP p ps ∈ p :: ps
  | [], p => by simp [mxP]
  | q :: ps, p => by
    show mxP (if PySem.W.dataLt (prD p) (prD q) = true then q else p) ps ∈ _
    have h := mxP_mem ps (if PySem.W.dataLt (prD p) (prD q) = true then q else p)
    rcases List.mem_cons.mp h with h | h
    · rw [h]
      split <;> simp
    · simp [h]
theorem pr_facts (ps : List (Int × Int)) : PyData.hasDictAll (ps.map prD) = false ∧ PyData.depthAll (ps.map prD) ≤ 3 := by
  induction ps with
  | nil => simp [PyData.hasDictAll, PyData.depthAll]
  | cons p ps ih =>
    obtain ⟨h1, h2⟩ := ih
    refine ⟨by simp [PyData.hasDictAll, prD, PyData.hasDict, h1], ?_⟩
    simp [PyData.depthAll, prD, PyData.depth]
    omega
theorem pr_alike (ps : List (Int × Int)) : PySem.W.AlikeAll (ps.map prD) := by
  refine ⟨fun x hx y hy => ?_, fun x hx => ?_⟩
  · obtain ⟨p, _, rfl⟩ := List.mem_map.mp hx
    obtain ⟨q, _, rfl⟩ := List.mem_map.mp hy
    rfl
  · obtain ⟨p, _, rfl⟩ := List.mem_map.mp hx
    intro h; cases h
abbrev xMaxP : XRC := fun ys m F => ∃ p ps, ys = [.d (.list ((p :: ps).map prD))] ∧ F (.d (prD (mxP p ps))) m
theorem cd_maxP (hc : X.calm = true) (hu : X.A.units + 64 < cLine) : CallD X (.builtin "max") xMaxP := by
  refine ⟨fun vs H Q => ∃ a xs p ps, vs = [V.ref a] ∧ SqL X.K H a xs ∧ DaAll X.K H xs ((p :: ps).map prD) ∧ ∀ (i : Nat) (v : V), xs[i]? = some v → ((p :: ps).map prD)[i]? = some (prD (mxP p ps)) → Q v H, ?_, fun {G m H vs ys F Q} rh rv hx cv => ?_⟩
  · intro pins s σ H vs us Q I r ⟨a, xs, p, ps, ev, hs, hd, q⟩
    subst ev
    obtain ⟨its, rv, hl, hz⟩ := I.list hs
    obtain ⟨u, rfl, ru⟩ := vals1 r
    obtain rfl : u = Value.ref a := ru
    obtain ⟨f1, f2⟩ := pr_facts (p :: ps)
    obtain ⟨as, rd⟩ := DaAll.reads I f1 hd rv
    refine PySem.W.max_list_data (as := as) (I.ok.hd hc) hl.isList (by rw [List.toList_toArray]; exact rd) (pr_alike (p :: ps)) (by
      have f2' : PyData.depthAll (prD p :: ps.map prD) ≤ 3 := f2
      omega) fun i v h' tk bs hi hr keep => ?_
    rw [List.getElem?_toArray] at hi
    have I' := I.kept (t' := tk) keep
    have hlen := rv.length
    obtain ⟨hil, _⟩ := List.getElem?_eq_some_iff.mp hi
    have hix : i < xs.length := by rw [hlen]; exact hil
    have hw : xs[i]? = some xs[i] := List.getElem?_eq_getElem hix
    have hrel : RelV xs[i] v := by
      have go : ∀ {xs : List V} {its : List Value} {i : Nat} {x : V} {v : Value}, Vals xs its → xs[i]? = some x → its[i]? = some v → RelV x v := by
        intro xs its i x v h
        induction h generalizing i with
        | nil => intro e; simp at e
        | cons h t ih =>
          intro e1 e2
          cases i with
          | zero => simp at e1 e2; subst e1 e2; exact h
          | succ i => exact ih (by simpa using e1) (by simpa using e2)
      exact go rv hw hi
    obtain ⟨d, hd1, hd2⟩ := DaAll.get' hd hw
    have hmem : d ∈ (p :: ps).map prD := List.mem_of_getElem? hd1
    obtain ⟨pp, _, rfl⟩ := List.mem_map.mp hmem
    obtain ⟨as2, hr2⟩ := Da.reads I' (by simp [prD, PyData.hasDict, PyData.hasDictAll]) hd2 hrel
    have e : prD pp = PySem.W.maxD (prD p) (ps.map prD) := PySem.SeqAt.Reads.unique _ _ v _ _ (by simp [prD, PyData.canLay0, PyData.canLayAll0]) hr2 hr
    rw [mxP_data] at e
    exact ⟨xs[i], H, I', hrel, q i _ hw (by rw [hd1, e])⟩
  · obtain ⟨p, ps, rfl, f⟩ := hx
    obtain ⟨v, rfl, rw⟩ := rvs1 rv
    obtain ⟨a, ws, rfl, s1, q1⟩ := rw.lst
    refine ⟨a, ws, p, ps, rfl, .inl (rd_sub rh s1), q1.mono rh.sub, fun i v hi hd => ?_⟩
    obtain ⟨d, hd1, hd2⟩ := DaAll.get' q1 hi
    rw [hd] at hd1
    cases hd1
    exact cv.at rh (.d hd2) f
/-- a whole number in a list of them -/
theorem inD_int {i : Int} : ∀ {ns : List Int}, inD (.int i) (ns.map PyData.int) = decide (i ∈ ns) := by
  intro ns
  unfold inD inV
  induction ns with
  | nil => rfl
  | cons n ns ih =>
    rw [List.map_cons, List.map_cons, List.any_cons, ih]
    have e : eqV (toV (.int n)) (toV (.int i)) = decide (n = i) := rfl
    rw [e]
    by_cases h : n = i
    · subst h; simp
    · have h' : ¬ i = n := fun z => h z.symm
      simp [h, h']
end
end Dl
/-! D18: sorted of data, list or tuple; remove. -/
namespace Dl
open PySem PySem.Spec PyProof.Rows L2 Evl PySem.W
section
variable {pr : Program} {w : World} {A : Around} {E : Value → Shared → Prop} {s : Shared}
theorem collectT {t : Addr} {us : List Value} {Q : List Value → Shared → Prop} (ht : s.heap.IsTuple t us.toArray) (hz : us.length ≤ sizeLine)
    (h : Q us { s with heap := (s.heap.push (seqObj "list" #[] 0)).update s.heap.objs.size (Obj.mapSeq (· ++ us.toArray)) }) : wpAny (model pr w) A (collect (.ref t)) Q E s := by
  obtain ⟨o, e1, e2, n, e3⟩ := id ht
  have e1' := Heap.get?_push_of_some (seqObj "list" #[] 0) e1
  unfold collect
  refine wpAny_bind (wpAny_runValue (codeAny_builtin entry_proto_collect' (show wpAny _ _ (do again (.builtin "list.__iadd__" ⟨[← newList [], .ref t], []⟩)) _ _ s from ?_)))
  refine wpAny_bind (wpAny_newList (wpAny_pure ⟨Code.quiet_builtin _ (by decide +kernel), codeAny_builtin entry_list_iadd' (show wpAny _ _ (Builtin.List.listExtendWith (.ref s.heap.objs.size) (.ref t) (.ref s.heap.objs.size)) _ _ { s with heap := s.heap.push (seqObj "list" #[] 0) } from ?_)⟩))
  unfold Builtin.List.listExtendWith
  refine wpAny_bind (wpAny_typeOf (T := "tuple") ⟨o, e1', e2⟩ ?_)
  rw [if_pos (by rw [show (Value.type "tuple" == Value.type "tuple") = true from rfl]; simp)]
  refine wpAny_bind (listItems_at e1' e3 (wpAny_bind (listItems_at (xs := #[]) (n := 0) (Heap.get?_push_size _ rfl) rfl ?_)))
  rw [if_neg (by simp)]
  have hz' : (#[] ++ us.toArray).size ≤ sizeLine + 1 := by simp only [Array.size_append, List.size_toArray, List.length_nil]; omega
  refine wpAny_bind (listUpdate_at (xs := #[]) (n := 0) (Heap.get?_push_size _ rfl) rfl (wpAny_pure (show wpAny (model pr w) A (do
      let o ← load s.heap.objs.size
      match o.data with
      | .seq z _ => pure z.toList
      | _ => unsupported "internal:collect") Q E { s with heap := (s.heap.push (seqObj "list" #[] 0)).update s.heap.objs.size (Obj.mapSeq (· ++ us.toArray)) } from ?_)) (Nat.zero_le _) hz')
  refine wpAny_bind (wpAny_load (get?_update_seq (Heap.get?_push_size _ rfl) _) (show wpAny _ _ (pure ((#[] : Array Value) ++ us.toArray).toList) Q E _ from ?_))
  rw [show ((#[] : Array Value) ++ us.toArray).toList = us by simp]
  exact wpAny_pure h
theorem sortedT {β : Type} {R : Value → β → Prop} {enc : β → PyData} {bs : List β} {t : Addr} {us : List Value} {Q : Value → Shared → Prop} (ht : s.heap.IsTuple t us.toArray) (e : EachIs R us bs) (er : EachIs (fun v b => ∃ as, Reads s.heap v (enc b) as) us bs)
    (hal : AllAlike (bs.map enc)) (hk : Sortable (bs.map enc)) (hL : bs.length ≤ sizeLine) (hu : ∀ b, b ∈ bs → A.units + 2 + (enc b).depth < cLine)
    (h : ∀ out, out.length = bs.length → EachIs R out (bs.mergeSort (dataLe false enc)) → Q (.ref (s.heap.objs.size + 1)) { s with heap := sortedAll s.heap us (List.toArray out) }) : wpAny (model pr w) A (call (.builtin "sorted") [.ref t]) Q E s := by
  have hz : us.length ≤ sizeLine := by rw [e.length]; exact hL
  have er' : EachIs (fun v b => ∃ as, Reads (sortingHeap (copyHeap s.heap us) (s.heap.objs.size + 1) us) v (enc b) as) us bs := er.mono fun _ _ ⟨x, r⟩ => ⟨x, PyProof.Rows.Reads.keeps (fun _ _ => sorting_copy_old) r⟩
  have bnd : ∀ d, d ∈ bs.map enc → A.in1.in1.units + d.depth < cLine := fun d hd => by
    obtain ⟨b, hb, rfl⟩ := List.mem_map.mp hd
    exact hu b hb
  have S := SortsAt.data (prog := pr) (w := w) (A := A.in1.in1) (s := { s with heap := sortingHeap (copyHeap s.heap us) (s.heap.objs.size + 1) us }) (each_map (R := fun v d => ∃ x, Reads (sortingHeap (copyHeap s.heap us) (s.heap.objs.size + 1) us) v d x) enc er') hal hk bnd
  have fin := h _ (by rw [sortVals_length false rfl]; exact e.length) (sortVals_data false e er' hal)
  refine call_function_entry_kw kind_sorted plain_sorted entry_sorted (args_sorted1 _) ?_
  unfold Builtin.«sorted»
  refine wpAny_bind (m := checkCount "sorted" 1 1 _) (wpAny_pure (wpAny_bind (collectT ht hz (wpAny_bind (wpAny_newList ?_ hz)))))
  have sz : ((s.heap.push (seqObj "list" #[] 0)).update s.heap.objs.size (Obj.mapSeq (· ++ us.toArray))).objs.size = s.heap.objs.size + 1 := by rw [Heap.size_update, size_push']
  show wpAny _ _ _ _ _ { s with heap := copyHeap s.heap us }
  rw [sz]
  refine wpAny_bind (wpAny_holding (wpAny_call_entry_kw slot_list_sort ⟨_, copyHeap_at s.heap us, rfl⟩ entry_list_sort (show wpAny (model pr w) A.in1.in1 (Builtin.«list.sort» ⟨[.ref (s.heap.objs.size + 1)], []⟩) _ _ _ from ?_) (args_list_sort _)))
  refine wpAny_mono (list_sort_vals (s := { s with heap := copyHeap s.heap us }) (P := fun f s' => f = .done (.ret .none) ∧ Q (.ref (s.heap.objs.size + 1)) s') (copyHeap_at s.heap us) S hz ⟨rfl, fin⟩) (fun f s' hf => ?_) fun _ _ e => e
  obtain ⟨rfl, hq⟩ := hf
  exact ⟨_, rfl, wpAny_pure ⟨_, rfl, hq⟩⟩
end
section
variable {X : Cx} {K : PySem.W.Frag} {G H : Hp} {m : Mu}
/-- data in order -/
def srtD (ds : List PyData) : List PyData := ds.mergeSort (dataLe false id)
abbrev xSortedD : XRC := fun ys m F => ∃ y ds, ys = [y] ∧ SqY m y (ds.map Y.d) ∧ AllAlike ds ∧ Sortable ds ∧ PyData.hasDictAll ds = false ∧ ds.length ≤ 10000 ∧ (∀ d ∈ ds, d.depth ≤ 20) ∧ F (.d (.list (srtD ds))) m
theorem each_vals {α : Type} {f : α → V} : ∀ {us : List Value} {bs : List α}, EachIs (fun v b => RelV (f b) v) us bs → Vals (bs.map f) us
  | _, _, .nil => .nil
  | _, _, .cons h t => .cons h (each_vals t)
theorem das_zip : ∀ {vs : List V} {ds : List PyData}, DaAll K H vs ds → ∀ z ∈ vs.zip ds, Da K H z.1 z.2
  | _, _, .nil, z, hz => nomatch hz
  | _, _, .cons h t, z, hz => by
    rw [List.zip_cons_cons] at hz
    rcases List.mem_cons.mp hz with rfl | hz
    · exact h
    · exact das_zip t z hz
theorem das_unzip : ∀ {zs : List (V × PyData)}, (∀ z ∈ zs, Da K H z.1 z.2) → DaAll K H (zs.map (·.1)) (zs.map (·.2))
  | [], _ => .nil
  | z :: zs, h => .cons (h z (by simp)) (das_unzip fun x hx => h x (by simp [hx]))
theorem cd_sortedD (hu : X.A.units + 64 < cLine) : CallD X (.builtin "sorted") xSortedD := by
  refine ⟨fun vs H Q => ∃ a xs ds, vs = [V.ref a] ∧ (SqL X.K H a xs ∨ SqT X.K H a xs) ∧ DaAll X.K H xs ds ∧ AllAlike ds ∧ Sortable ds ∧ PyData.hasDictAll ds = false ∧ ds.length ≤ sizeLine ∧ (∀ d ∈ ds, d.depth ≤ 20) ∧
    ∀ (zs : List (V × PyData)) d, H d = none → zs.Perm (xs.zip ds) → zs.map (·.2) = srtD ds → Q (.ref d) (upd H d (.lst (zs.map (·.1)))), ?_, fun {G m H vs ys F Q} rh rv hx cv => ?_⟩
  · intro pins s σ H vs us Q I r ⟨a, xs, ds, ev, hs, hda, hal, hk, hnd, hl, hdp, q⟩
    subst ev
    obtain ⟨u, rfl, ru⟩ := vals1 r
    obtain rfl : u = Value.ref a := ru
    have hxl : xs.length = ds.length := hda.length
    have e2 : (xs.zip ds).map (·.2) = ds := by rw [List.map_snd_zip]; omega
    have e1 : (xs.zip ds).map (·.1) = xs := by rw [List.map_fst_zip]; omega
    have zl : (xs.zip ds).length = ds.length := by rw [List.length_zip]; omega
    have go : ∀ its : List Value, Vals xs its → (s.heap.IsList a its.toArray ∨ s.heap.IsTuple a its.toArray) → wpAny (model X.prog X.w) X.A (call (.builtin "sorted") [.ref a]) (EP X pins σ Q) X.xe s := by
      intro its rvs hc
      have e : ∀ {xs : List V} {ds : List PyData} {its : List Value}, xs.length = ds.length → Vals xs its → EachIs (fun v (b : V × PyData) => RelV b.1 v) its (xs.zip ds) := by
        intro xs
        induction xs with
        | nil => intro ds its h r; cases r; exact .nil
        | cons x xs ih =>
          intro ds its h r
          cases ds with
          | nil => simp at h
          | cons d ds => cases r with | cons r1 r2 => exact .cons r1 (ih (by simpa using h) r2)
      have er : ∀ {xs : List V} {ds : List PyData} {its : List Value}, PyData.hasDictAll ds = false → DaAll X.K H xs ds → Vals xs its → EachIs (fun v (b : V × PyData) => ∃ as, Reads s.heap v b.2 as) its (xs.zip ds) := by
        intro xs
        induction xs with
        | nil => intro ds its nd h r; cases h; cases r; exact .nil
        | cons x xs ih =>
          intro ds its nd h r
          cases h with
          | cons h t =>
            simp [PyData.hasDictAll] at nd
            cases r with | cons r1 r2 => exact .cons (Da.reads I nd.1 h r1) (ih nd.2 t r2)
      have fin : ∀ out : List Value, out.length = (xs.zip ds).length → EachIs (fun v (b : V × PyData) => RelV b.1 v) out ((xs.zip ds).mergeSort (dataLe false (fun b => b.2))) →
          EP X pins σ Q (.ref (s.heap.objs.size + 1)) { s with heap := sortedAll s.heap its (List.toArray out) } := by
        intro out ho hr
        obtain ⟨n, hn⟩ := sortedAll_at s.heap its out.toArray
        have hd : s.heap.objs.size ≤ s.heap.objs.size + 1 := Nat.le_succ _
        have pm := List.mergeSort_perm (xs.zip ds) (dataLe false (fun b => b.2))
        have sm : ((xs.zip ds).mergeSort (dataLe false (fun b => b.2))).map (·.2) = srtD ds := by
          have z := List.map_mergeSort (r := dataLe false fun b : V × PyData => b.2) (s := dataLe false id) (f := fun b : V × PyData => b.2) (l := xs.zip ds) (fun _ _ _ _ => rfl)
          rw [z, e2]; rfl
        have f := q _ (s.heap.objs.size + 1) (I.hok.fresh hd) pm sm
        have ly : (((xs.zip ds).mergeSort (dataLe false (fun b => b.2))).map (·.1)).length ≤ sizeLine := by rw [List.length_map, pm.length_eq, zl]; exact hl
        exact ⟨.ref _, upd H _ (.lst _), I.laid (t' := s.toks) (fun _ _ => sortedAll_old) hd ⟨ly, out, n, each_vals hr, hn⟩, rfl, f⟩
      rcases hc with hc | hc
      · exact PySem.W.sorted_data hc (e hxl rvs) (er hnd hda rvs) (by rw [e2]; exact hal) (by rw [e2]; exact hk) (by rw [zl]; exact hl) (fun b hb => by have := hdp b.2 (by rw [← e2]; exact List.mem_map_of_mem hb); omega) fin
      · exact sortedT hc (e hxl rvs) (er hnd hda rvs) (by rw [e2]; exact hal) (by rw [e2]; exact hk) (by rw [zl]; exact hl) (fun b hb => by have := hdp b.2 (by rw [← e2]; exact List.mem_map_of_mem hb); omega) fin
    rcases hs with hs | hs
    · obtain ⟨its, r1, h1, _⟩ := I.list hs
      exact go its r1 (.inl h1.isList)
    · obtain ⟨its, r1, h1, _⟩ := I.tuple hs
      exact go its r1 (.inr h1)
  · obtain ⟨y, ds, rfl, hs, hal, hk, hnd, hl, hdp, f⟩ := hx
    obtain ⟨v, rfl, rw⟩ := rvs1 rv
    obtain ⟨p, ws, rfl, s1, q1⟩ := sqY_ok rh rw hs
    have q2 := RVs.das q1
    refine ⟨p, ws, ds, rfl, s1, q2.mono rh.sub, hal, hk, hnd, Nat.le_trans hl szl, hdp, fun zs d hd hz hs => ?_⟩
    have r1 := das_unzip fun z h => das_zip q2 z (hz.mem_iff.mp h)
    rw [hs] at r1
    exact lstD_ok rh r1.rvs hd f cv
/-- l.remove(x), x in l -/
abbrev xRemD : XRM := fun y ys m F => ∃ p ds d j, y = .l p ∧ ys = [.d d] ∧ m p = some (.lst (ds.map Y.d)) ∧ PyData.plainAll ds = true ∧ d.plain = true ∧ PyData.hasDictAll ds = false ∧ d.hasDict = false ∧ d.depth ≤ 20 ∧ SeqAt.dataPlace ds d = some j ∧ F (.d .none) (mu m p (.lst ((ds.eraseIdx j).map Y.d)))
theorem md_removeD (hu : X.A.units + 64 < cLine) : MtD X "list.remove" xRemD := by
  refine ⟨fun x xs H Q => ∃ l ys y ds d j, x = .ref l ∧ xs = [y] ∧ H l = some (.lst ys) ∧ DaAll X.K H ys ds ∧ Da X.K H y d ∧ PyData.plainAll ds = true ∧ d.plain = true ∧ PyData.hasDictAll ds = false ∧ d.hasDict = false ∧ d.depth ≤ 20 ∧ SeqAt.dataPlace ds d = some j ∧ Q .non (upd H l (.lst (ys.eraseIdx j))), ?_, fun {G m H v y vs ys F Q} rh rv rvs hx cv => ?_⟩
  · intro pins s σ H x xs v us Q I rx rxs ⟨l, ys, y, ds, d, j, ex, exs, hl, h1, h2, p1, p2, n1, n2, hd, hp, q⟩
    subst ex exs
    cases rx
    obtain ⟨u, rfl, ru⟩ := rxs.one
    obtain ⟨z, its, n, r, hlen, e⟩ := I.lstM hl
    obtain ⟨as, rs⟩ := DaAll.reads I n1 h1 r
    obtain ⟨bs, rx⟩ := Da.reads I n2 h2 ru
    refine SeqAt.remove_list_data (vs := its.toArray) ⟨_, e, rfl, n, rfl⟩ (by simpa using rs) rx p1 p2 (by omega) hp (by rw [List.size_toArray]; omega) ⟨.non, _, I.lset (its' := its.eraseIdx j) (t' := s.toks) hl e ?_ (r.eraseIdx j) (Nat.le_trans (List.length_eraseIdx_le _ _) z), rfl, q⟩
    show its.toArray.eraseIdxIfInBounds j = (its.eraseIdx j).toArray
    rw [List.eraseIdxIfInBounds_toArray]
  · obtain ⟨p, ds, d, j, rfl, rfl, hm, p1, p2, n1, n2, hd, hp, f⟩ := hx
    obtain ⟨w, rfl, rw⟩ := rvs1 rvs
    cases rv.loc
    obtain ⟨ws, e3, q⟩ := rh.lst hm
    have qd := RVs.das q
    refine ⟨p, ws, w, ds, d, j, rfl, rfl, e3, qd.mono rh.sub, rw.da.mono rh.sub, p1, p2, n1, n2, hd, hp, ?_⟩
    have e4 : RVs X.K G (ws.eraseIdx j) ((ds.eraseIdx j).map Y.d) := by
      have := q.eraseIdx j
      have e5 : (ds.map Y.d).eraseIdx j = (ds.eraseIdx j).map Y.d := by
        have go : ∀ (ds : List PyData) (j : Nat), (ds.map Y.d).eraseIdx j = (ds.eraseIdx j).map Y.d := by
          intro ds
          induction ds with
          | nil => intro j; rfl
          | cons d ds ih => intro j; cases j with
            | zero => rfl
            | succ j => exact congrArg (Y.d d :: ·) (ih j)
        exact go ds j
      rw [e5] at this
      exact this
    exact cv .non _ G _ _ (Ex.refl G) (rh.write hm (.lst e4)) (.d .non) f
/-- repr of what is data now -/
abbrev xReprM : XRC := fun ys m F => ∃ y d, ys = [y] ∧ DeepY m y d ∧ d.showable = true ∧ d.hasDict = false ∧ d.depth ≤ 40 ∧ cst d ≤ 10000000 ∧ F (.d (.str d.shown)) m
theorem cr_reprD (hg : X.A.guards = some []) (hu : X.A.units + 64 < cLine) : CallR X (.builtin "repr") (fun vs H Q => ∃ v d, vs = [v] ∧ Da X.K H v d ∧ d.showable = true ∧ d.hasDict = false ∧ d.depth ≤ 40 ∧ d.shown.length ≤ sizeLine ∧ Q (.str d.shown) H) := by
  intro pins s σ H vs us Q I r ⟨v, d, ev, hd, h1, h2, h3, h4, q⟩
  subst ev
  obtain ⟨u, rfl, ru⟩ := vals1 r
  obtain ⟨as, rd⟩ := Da.reads I h2 hd ru
  cases hd with
  | non => cases ru; exact PySem.P.repr_of_none ⟨.str _, H, I.tok _, ⟨_, rfl⟩, q⟩
  | bl b => cases ru; exact PySem.P.repr_of_bool ⟨.str _, H, I.tok _, ⟨_, rfl⟩, q⟩
  | int i =>
    obtain ⟨t, rfl⟩ := ru
    exact PySem.P.repr_of_int (by simpa [PyData.showable] using h1) ⟨.str _, H, I.tok _, ⟨_, rfl⟩, q⟩
  | str x =>
    obtain ⟨t, rfl⟩ := ru
    exact PySem.P.repr_of_str ⟨.str _, H, I.tok _, ⟨_, rfl⟩, q⟩ h4
  | lst _ _ =>
    cases ru
    exact repr_of_reads' rd h1 (PyData.noDict_hsm h2) hg (by omega) (fun _ _ z => z) (fun h' t tk k => ⟨.str _, H, I.kept k, ⟨_, rfl⟩, q⟩) h4
  | tup _ _ =>
    cases ru
    exact repr_of_reads' rd h1 (PyData.noDict_hsm h2) hg (by omega) (fun _ _ z => z) (fun h' t tk k => ⟨.str _, H, I.kept k, ⟨_, rfl⟩, q⟩) h4
  | dic _ _ _ _ => simp [PyData.hasDict] at h2
theorem cd_reprM (hg : X.A.guards = some []) (hu : X.A.units + 64 < cLine) : CallD X (.builtin "repr") xReprM := ⟨_, cr_reprD hg hu, fun {G m H vs ys F Q} rh rv hx cv => by
  obtain ⟨y, d, rfl, hy, g1, g2, g3, g4, f⟩ := hx
  obtain ⟨v, rfl, rw⟩ := rvs1 rv
  exact ⟨v, d, rfl, hy.da rh rw, g1, g2, g3, Nat.le_trans (cst_ok d g1 g2) (Nat.le_trans g4 (by decide)), cv.at rh (.d (.str _)) f⟩⟩
end
end Dl
/-! D19: what is written: tuples of texts, dicts with text keys; dicts as data; zip; max of ints; lists joined to a new one. -/
namespace Dl
open PySem PySem.Spec PyProof.Rows L2 Evl
section
variable {X : Cx} {W : WX} {K : PySem.W.Frag} {G H : Hp} {m : Mu} {a b e e2 : Expr} {pos : Pos} {t ta tb : XE}
/-! ### written tuples of texts -/
def strsOf : List Value → Option (List Str)
  | [] => some []
  | .str x _ :: r => (strsOf r).map (x :: ·)
  | _ :: _ => none
theorem strs_vals : ∀ {us : List Value} {xs : List Str}, strsOf us = some xs → Vals (xs.map V.str) us
  | [], xs, h => by cases h; exact .nil
  | .str x t :: r, xs, h => by
    cases e : strsOf r with
    | none => rw [strsOf, e] at h; cases h
    | some ys =>
      rw [strsOf, e] at h
      cases h
      exact .cons ⟨t, rfl⟩ (strs_vals e)
  | .none :: _, _, h => by cases h
  | .bool _ :: _, _, h => by cases h
  | .int _ _ :: _, _, h => by cases h
  | .float _ _ :: _, _, h => by cases h
  | .ref _ :: _, _, h => by cases h
  | .type _ :: _, _, h => by cases h
  | .builtin _ :: _, _, h => by cases h
  | .bytes _ _ :: _, _, h => by cases h
  | .ellipsis :: _, _, h => by cases h
  | .notImplemented :: _, _, h => by cases h
theorem das_strs : ∀ xs : List Str, DaAll K H (xs.map V.str) (xs.map PyData.str)
  | [] => .nil
  | x :: xs => .cons (.str x) (das_strs xs)
/-- at p: a written tuple of these texts -/
structure TupK (K : PySem.W.Frag) (p : Addr) (xs : List Str) : Prop where
  ex : ∃ od its n sl, K.lookup p = some ⟨.type "tuple", od, .seq its n, sl⟩ ∧ its.size ≤ sizeLine ∧ strsOf its.toList = some xs
theorem TupK.da {p : Addr} {xs : List Str} (h : TupK K p xs) : Da K G (.ref p) (.tuple (xs.map PyData.str)) := by
  obtain ⟨od, its, n, sl, h1, h2, h3⟩ := h.ex
  exact .tup (.inr ⟨_, its, n, h1, rfl, rfl, h2, strs_vals h3⟩) (das_strs xs)
theorem de_gt {x : Str} {xs : List Str} (hg : Gl X x) (hm : ∃ p, X.mg x = some (.ref p) ∧ TupK X.K p xs) (hd : (x == ("__debug__" : Str)) = false := by decide) : DE X W (.Name x pos) (xC (.d (.tuple (xs.map PyData.str)))) := by
  obtain ⟨p, hm, h⟩ := hm
  exact de_glob (v := V.ref p) (u := Value.ref p) hg hm rfl (fun G => .d h.da) hd
theorem de_gr {x : Str} {p : Addr} (hg : Gl X x) (hm : X.mg x = some (.ref p)) (hd : (x == ("__debug__" : Str)) = false := by decide) : DE X W (.Name x pos) (xC (.v (.ref p))) :=
  de_glob (v := V.ref p) (u := Value.ref p) hg hm rfl (fun G => .v _) hd
/-! ### a written dict with text keys -/
abbrev xInK (K : PySem.W.Frag) (d : Addr) (neg : Bool) : XR := fun y z m F => ∃ x r, y = .d (.str x) ∧ z = .v (.ref d) ∧ PySem.W.nsIn K d x = some r ∧ F (.d (.bool (if neg then !r.isSome else r.isSome))) m
theorem opd_inK {d : Addr} {es : Array DictEntry} {n : Nat} (D : KDict X.K X.w d es n) : OpD X (compareOp .In) (xInK X.K d false) := ⟨_, op_in_kd D, fun {G m H v w y z F Q} rh rv rw hx cv => by
  obtain ⟨x, r, rfl, rfl, e, f⟩ := hx
  cases rw
  exact ⟨x, r, rv.str, rfl, e, cv.at rh (.d (.bl _)) f⟩⟩
theorem opd_notinK {d : Addr} {es : Array DictEntry} {n : Nat} (D : KDict X.K X.w d es n) : OpD X (compareOp .NotIn) (xInK X.K d true) := ⟨_, op_notIn_kd D, fun {G m H v w y z F Q} rh rv rw hx cv => by
  obtain ⟨x, r, rfl, rfl, e, f⟩ := hx
  cases rw
  exact ⟨x, r, rv.str, rfl, e, cv.at rh (.d (.bl _)) f⟩⟩
abbrev xIxK (K : PySem.W.Frag) (w : World) : XR := fun y z m F => ∃ x p v q, y = .v (.ref p) ∧ z = .d (.str x) ∧ KDct K w p x v ∧ (∀ G, RV K G v q) ∧ F q m
theorem de_ixK (ha : DE X W a ta) (hb : DE X W b tb) (hs : PlainIx b) : DE X W (.Subscript a b pos) (xOp (xIxK X.K X.w) ta tb) := ⟨fun {G r m σ H F P Q} rs rh hx cv cx =>
  se_of (pe_ix ix_kdict se_pe se_pe hs) (ha.run rs rh hx (fun v y G1 m1 H1 e1 rh1 rv1 q1 =>
    hb.run (rs.mono e1) rh1 q1 (fun w z G2 m2 H2 e2 rh2 rv2 q2 => by
      obtain ⟨x, p, v0, q, rfl, rfl, h1, h2, f⟩ := q2
      cases rv1
      exact ⟨p, x, v0, rfl, rv2.str, h1, cv v0 q G2 m2 H2 (e1.trans e2) rh2 (h2 G2) f⟩) (cx.mono e1)) cx)⟩
/-! ### dicts as data -/
def dGet (es : List (PyData × PyData)) (x : Str) : Option PyData := (es.find? fun p => match p.1 with | .str z => decide (z = x) | _ => false).map (·.2)
theorem dic_get {x : Str} : ∀ {kvs : List (Key × V)} {ks ds : List PyData}, DaAll K H (kvs.map fun p => kV p.1) ks → DaAll K H (kvs.map fun p => p.2) ds → ∀ {d : PyData}, dGet (ks.zip ds) x = some d → ∃ v, valV kvs (Sum.inr x) = some v ∧ Da K H v d
  | [], _, _, h1, h2, d, e => by cases h1; cases e
  | (k, v) :: kvs, _, _, h1, h2, d, e => by
    cases h1 with
    | cons h1 t1 =>
      cases h2 with
      | cons h2 t2 =>
        cases k with
        | inl i =>
          cases h1
          obtain ⟨u, g1, g2⟩ := dic_get t1 t2 (d := d) (x := x) (by simpa [dGet] using e)
          refine ⟨u, ?_, g2⟩
          unfold valV at g1 ⊢
          rw [List.find?_cons_of_neg (by simp)]
          exact g1
        | inr z =>
          cases h1
          by_cases hz : z = x
          · subst hz
            rename_i d0 _
            have : d0 = d := by simpa [dGet] using e
            subst this
            exact ⟨v, valV_pos rfl, h2⟩
          · obtain ⟨u, g1, g2⟩ := dic_get t1 t2 (d := d) (x := x) (by simpa [dGet, hz] using e)
            refine ⟨u, ?_, g2⟩
            unfold valV at g1 ⊢
            rw [List.find?_cons_of_neg (by simpa using hz)]
            exact g1
abbrev xIxD : XR := fun y z m F => ∃ es x d, y = .d (.dict es) ∧ z = .d (.str x) ∧ dGet es x = some d ∧ F (.d d) m
theorem de_ixD (hu : X.A.units + 1 < cLine) (ha : DE X W a ta) (hb : DE X W b tb) (hs : PlainIx b) : DE X W (.Subscript a b pos) (xOp xIxD ta tb) := ⟨fun {G r m σ H F P Q} rs rh hx cv cx =>
  se_of (pe_dget hu se_pe se_pe hs) (ha.run rs rh hx (fun v y G1 m1 H1 e1 rh1 rv1 q1 =>
    hb.run (rs.mono e1) rh1 q1 (fun w z G2 m2 H2 e2 rh2 rv2 q2 => by
      obtain ⟨es, x, d, rfl, rfl, h1, f⟩ := q2
      have rv := rv1.mono e2
      cases rv with
      | d q =>
        cases q with
        | dic r k1 k2 eq =>
          subst eq
          obtain ⟨u, g1, g2⟩ := dic_get k1 k2 h1
          refine ⟨_, u, rfl, .inl ⟨_, Sum.inr x, rd_sub rh2 r, rv2.str, g1.symm⟩, ?_⟩
          exact cv u (.d d) G2 m2 H2 (e1.trans e2) rh2 (.d g2) f) (cx.mono e1)) cx)⟩
/-! ### {..} with written texts as keys, as data -/
inductive DPr (X : Cx) (W : WX) : List (Option Expr) → List Expr → List Str → XA → Prop
  | nil : DPr X W [] [] [] xNil
  | cons {k : Str} {j : Nat} {p : Pos} {v : Expr} {ks : List (Option Expr)} {vs : List Expr} {xs : List Str} {tv : XE} {ta : XA} : DE X W v tv → DPr X W ks vs xs ta → DPr X W (some (.Constant (.str k) j p) :: ks) (v :: vs) (k :: xs) (xCons tv ta)
theorem DPr.lens {ks : List (Option Expr)} {vs : List Expr} {xs : List Str} {ta : XA} (h : DPr X W ks vs xs ta) : ks.all (·.isSome) = true ∧ ks.length = vs.length ∧ ks.length = xs.length := by
  induction h with
  | nil => exact ⟨rfl, rfl, rfl⟩
  | cons _ _ ih => exact ⟨by simpa using ih.1, by simp [ih.2.1], by simp [ih.2.2]⟩
theorem dpr_ok {ks : List (Option Expr)} {vs : List Expr} {xs : List Str} {ta : XA} (h : DPr X W ks vs xs ta) : ∃ trs, PPs X pos ks vs trs ∧ ∀ {G : Hp} {r : Ro} {m : Mu} {σ : L2.St} {H : Hp} {F : List Y → Mu → Prop} {P : XP} {Q : List (V × V) → Hp → Prop}, Rs X.K G σ r → Rh X.K G m H → ta r m F P →
    (∀ (ws : List V) ys G' m' H', Ex G G' → Rh X.K G' m' H' → RVs X.K G' ws ys → F ys m' → ws.length = xs.length → Q ((xs.map V.str).zip ws) H') → CvX X.K G P (WEx W σ) → tPairs trs σ H Q := by
  induction h with
  | nil => exact ⟨[], pps_nil, fun rs rh hx cv cx => cv [] [] _ _ _ (Ex.refl _) rh .nil hx rfl⟩
  | @cons k j p v ks vs xs tv ta hv hr ih =>
    obtain ⟨trs, h1, h2⟩ := ih
    refine ⟨_ :: trs, pps_cons pe_str se_pe h1, fun {G r m σ H F P Q} rs rh hx cv cx => ?_⟩
    refine hv.run rs rh hx (fun u y G1 m1 H1 e1 rh1 rv1 q1 => ?_) cx
    refine h2 (rs.mono e1) rh1 q1 (fun ws ys G2 m2 H2 e2 rh2 rv2 q2 hl => ?_) (cx.mono e1)
    exact cv (u :: ws) (y :: ys) G2 m2 H2 (e1.trans e2) rh2 (.cons (rv1.mono e2) rv2) q2 (by simp [hl])
abbrev xDict (xs : List Str) (ta : XA) : XE := fun r m F P => ∀ p, m p = none → ta r (mu m p (.dic [])) (fun ys m2 => ∃ ds, ys = ds.map Y.d ∧ m2 p = some (.dic []) ∧ F (.d (.dict ((xs.map PyData.str).zip ds))) (fun b => if b = p then none else m2 b)) P
theorem merge_new : ∀ (kvs acc : List (Key × V)), (kvs.map (·.1)).Nodup → (∀ k ∈ kvs.map (·.1), k ∉ acc.map (·.1)) → mergeK acc kvs = acc ++ kvs
  | [], acc, _, _ => by simp [mergeK]
  | (k, v) :: kvs, acc, hn, hd => by
    have hn' := List.nodup_cons.mp hn
    have e : putK acc k v = acc ++ [(k, v)] := by
      unfold putK
      rw [if_neg]
      intro h
      obtain ⟨x, hx, hk⟩ := List.any_eq_true.mp h
      exact hd k (by simp) (List.mem_map.mpr ⟨x, hx, by simpa using hk⟩)
    show mergeK (putK acc k v) kvs = _
    rw [e, merge_new kvs (acc ++ [(k, v)]) hn'.2 (fun k' hk' hm => ?_), List.append_assoc]
    · rfl
    · rw [List.map_append] at hm
      rcases List.mem_append.mp hm with hm | hm
      · exact hd k' (by simp [hk']) hm
      · have : k' = k := by simpa using hm
        subst this
        exact hn'.1 hk'
theorem Rh.frzD {kvs : List (Key × V)} {u0 : MO} {ks ds : List PyData} (rh : Rh K G m H) (h : m p = some u0) (hu0 : ∀ T, u0 ≠ .tab T) (h1 : ∀ G', Ex G G' → DaAll K G' (kvs.map fun q => kV q.1) ks) (h2 : ∀ G', Ex G G' → DaAll K G' (kvs.map fun q => q.2) ds) :
    ∃ G', Ex G G' ∧ Rh K G' (fun b => if b = p then none else m b) (upd H p (.dK kvs)) ∧ Da K G' (.ref p) (.dict (ks.zip ds)) := by
  have f := rh.off p _ h
  have e1 : Ex G (upd G p (.dK kvs)) := Ex.new f
  have np : ∀ a, (∃ T, m a = some (.tab T)) → a ≠ p := fun a ⟨T, z⟩ e => by rw [e, h] at z; cases z; exact hu0 T rfl
  refine ⟨upd G p (.dK kvs), e1, ⟨fun a u e2 => ?_, fun a u e2 => ?_, fun a u e2 => ?_, rh.tb.keep e1 (fun a T z => by
    have z' : (if a = p then none else m a) = some (.tab T) := z
    by_cases q : a = p
    · rw [if_pos q] at z'; cases z'
    · rwa [if_neg q] at z') (fun a T z => by show (if a = p then none else m a) = _; rw [if_neg (np a ⟨T, z⟩)]; exact z) (fun a o e z => by rw [upd_ne (np a z)]; exact e), nt_upd rh.nt (fun _ z => by cases z)⟩, .dic (.inl upd_same) (h1 _ e1) (h2 _ e1) rfl⟩
  · by_cases z : a = p
    · subst z; rw [upd_same] at e2 ⊢; exact e2
    · rw [upd_ne z] at e2 ⊢; exact rh.sub a u e2
  · have e2' : (if a = p then none else m a) = some u := e2
    by_cases z : a = p
    · rw [if_pos z] at e2'; cases e2'
    · rw [if_neg z] at e2'; rw [upd_ne z]; exact rh.off a u e2'
  · have e2' : (if a = p then none else m a) = some u := e2
    by_cases z : a = p
    · rw [if_pos z] at e2'; cases e2'
    · rw [if_neg z] at e2'
      obtain ⟨x, e3, e4⟩ := rh.mem a u e2'
      exact ⟨x, by rw [upd_ne z]; exact e3, e4.mono e1⟩
theorem de_dict {ks : List (Option Expr)} {vs : List Expr} {xs : List Str} {ta : XA} (h : DPr X W ks vs xs ta) (hn : xs.Nodup) (h0 : ks ≠ []) (h15 : ks.length ≤ 15) : DE X W (.Dict ks vs pos) (xDict xs ta) := by
  obtain ⟨l1, l2, l3⟩ := h.lens
  obtain ⟨trs, g1, g2⟩ := dpr_ok (pos := pos) h
  refine ⟨fun {G r m σ H F P Q} rs rh hx cv cx => se_of (pe_disp g1 l1 l2 h0 h15) fun p hp => ?_⟩
  refine g2 rs (rh.new (u := .dic []) hp (.dic .nil)) (hx p (rh.free hp).2) (fun ws ys G2 m2 H2 e2 rh2 rv2 q2 hl => ?_) cx
  obtain ⟨ds, rfl, hm2, f⟩ := q2
  obtain ⟨fs, hH2, r2⟩ := rh2.dic hm2
  have hfs : fs = [] := by cases r2; rfl
  subst hfs
  refine ⟨hH2, (xs.map (Sum.inr (α := Int))).zip ws, ?_, ?_, ?_⟩
  · rw [show (xs.map V.str) = (xs.map (Sum.inr (α := Int))).map kV by rw [List.map_map]; rfl, List.zip_map_left]; rfl
  · rw [List.length_zip, List.length_map]; omega
  · have hz1 : ((xs.map (Sum.inr (α := Int))).zip ws).map (·.1) = xs.map (Sum.inr (α := Int)) := by rw [List.map_fst_zip]; rw [List.length_map]; omega
    have hz2 : ((xs.map (Sum.inr (α := Int))).zip ws).map (·.2) = ws := by rw [List.map_snd_zip]; rw [List.length_map]; omega
    rw [merge_new _ [] (by rw [hz1]; exact List.Pairwise.map _ (fun _ _ h e => h (Sum.inr.inj e)) hn) (fun _ _ h => by simp at h), List.nil_append]
    obtain ⟨G3, e3, rh3, rd⟩ := rh2.frzD (kvs := (xs.map (Sum.inr (α := Int))).zip ws) (ks := xs.map PyData.str) (ds := ds) hm2 (fun _ z => by cases z) (fun G' e => by
      rw [show (fun q : Key × V => kV q.1) = kV ∘ (fun q : Key × V => q.1) from rfl, ← List.map_map, hz1, List.map_map]
      exact das_strs xs) (fun G' e => by rw [hz2]; exact (RVs.das rv2).mono e)
    exact cv _ _ G3 _ _ (e2.trans e3) rh3 (.d rd) f
/-! ### zip of two tuples -/
abbrev wkZip (xs ys : List PyData) : Wk := ⟨min xs.length ys.length, fun i m F => ∃ x y, xs[i]? = some x ∧ ys[i]? = some y ∧ F (.d (.tuple [x, y])) m, fun _ => True⟩
abbrev xiZip (ta : XA) : XI := fun r m F P => ta r m (fun zs m1 => ∃ xs ys, zs = [.d (.tuple xs), .d (.tuple ys)] ∧ F (wkZip xs ys) m1) P
theorem di_zip {p tpos : Pos} {elts : List Expr} {kk : Nat} {ta : XA} (hg : Gl X "zip") (hm : X.mg "zip" = none) (ha : DA X W [e, e2] ta) (hs : starEach [e, e2] X.env = (false, eval e X.env) :: starEach [e2] X.env := by rfl) (hpl : (backTo pos (starEach [e2] X.env)).any (·.1) = false := by rfl) :
    DI X W (.Tuple elts kk tpos) (.Call (.Name "zip" p) [e, e2] [] pos) (xiZip ta) := ⟨fun {G r m σ H F P R} rs rh hx cr cx =>
  si_of (RZ.pi_zipA hg hm sa_pa hs hpl) (ha.run rs rh hx (fun vs zs G1 m1 H1 e1 rh1 rv1 ⟨xs, ys, q1, q3⟩ => by
    subst q1
    obtain ⟨v, w, rfl, r1, r2⟩ := rvs2 rv1
    obtain ⟨a, us, rfl, s1, d1⟩ := r1.tup
    obtain ⟨b, ws, rfl, s2, d2⟩ := r2.tup
    have k1 : ∀ {G2 : Hp} {m : Mu} {H : Hp}, Ex G1 G2 → Rh X.K G2 m H → SqT X.K H a us := fun e rh => ex_t (e.trans rh.sub) s1
    have k2 : ∀ {G2 : Hp} {m : Mu} {H : Hp}, Ex G1 G2 → Rh X.K G2 m H → SqT X.K H b ws := fun e rh => ex_t (e.trans rh.sub) s2
    refine ⟨a, b, us, ws, rfl, .inr ⟨k1 (Ex.refl _) rh1, k2 (Ex.refl _) rh1, cr _ _ G1 m1 H1 e1 rh1 ⟨fun i m G2 H e rh s hi => ?_, fun i m G2 H x H' e rh s hi q F Q f cv => ?_, fun m G2 H e rh s => ?_⟩ q3⟩⟩
    · have hi' : i < min xs.length ys.length := hi
      have h1 := d1.length
      have h2 := d2.length
      exact ⟨us, ws, us[i], ws[i], k1 e rh, k2 e rh, by simp, by simp⟩
    · obtain ⟨T, x0, y0, rfl, hT, rfl, q2, q3⟩ := q
      obtain ⟨x, y, hx, hy, f⟩ := f
      obtain ⟨u, hu, ru⟩ := DaAll.get (d1.mono e) hx
      obtain ⟨v, hv, rv⟩ := DaAll.get (d2.mono e) hy
      have z1 := q2 _ (k1 e rh)
      have z2 := q3 _ (k2 e rh)
      rw [hu] at z1; cases z1
      rw [hv] at z2; cases z2
      exact mkT_ok rh (.cons (.d ru) (.cons (.d rv) .nil)) hT f cv
    · refine ⟨us, ws, k1 e rh, k2 e rh, ?_⟩
      have h1 := d1.length
      have h2 := d2.length
      show us.length ≤ min xs.length ys.length ∨ ws.length ≤ min xs.length ys.length
      omega) cx)⟩
/-! ### max of ints; lists joined to a new one that is to change -/
abbrev xMaxI : XRC := fun ys m F => ∃ (y : Y) (ns : List Int), ys = [y] ∧ LsY m y ((ns.map PyData.int).map Y.d) ∧ 0 < ns.length ∧ ∀ k, k ∈ ns → (∀ j ∈ ns, j ≤ k) → F (.d (.int k)) m
theorem cd_maxI (hc : X.calm = true) : CallD X (.builtin "max") xMaxI := ⟨_, cr_max hc, fun {G m H vs ys F Q} rh rv hx cv => by
  obtain ⟨y, ns, rfl, hs, h0, f⟩ := hx
  obtain ⟨v, rfl, rw⟩ := rvs1 rv
  obtain ⟨p, ws, rfl, s1, q⟩ := lsY_ok rh rw hs
  exact ⟨p, ns, rfl, by rw [← ints_rvs (RVs.das q)]; exact .inl s1, h0, fun k h1 h2 => cv.at rh (.d (.int _)) (f k h1 h2)⟩⟩
abbrev xAddM : XR := fun y z m F => ∃ ys zs, LsY m y ys ∧ LsY m z zs ∧ ys.length + zs.length ≤ 10000 ∧ ∀ p, m p = none → F (.l p) (mu m p (.lst (ys ++ zs)))
theorem opd_addM : OpD X (binaryOp .Add) xAddM := by
  refine ⟨_, opr_catD, fun {G m H v w y z F Q} rh rv rw hx cv => ?_⟩
  obtain ⟨ys, zs, h1, h2, hl, f⟩ := hx
  obtain ⟨p, us, rfl, s1, q1⟩ := lsY_ok rh rv h1
  obtain ⟨q, ws, rfl, s2, q2⟩ := lsY_ok rh rw h2
  refine ⟨p, q, us, ws, rfl, rfl, s1, s2, by rw [q1.length, q2.length]; exact Nat.le_trans hl szl, fun b hb => ?_⟩
  exact lstM_ok rh (q1.app q2) hb f cv
end
end Dl
/-! D20: small lemmas for readings; constants of a class; zip in a comprehension. -/
namespace Dl
open PySem PySem.Spec PyProof.Rows L2 Evl
section
variable {X : Cx} {W : WX} {o : Expr} {to : XE} {pos : Pos}
theorem kixK {e o : Expr} {ta tb : XE} (K : PySem.W.Frag) (w : World) (ha : DE X W e ta) (hb : DE X W o tb) (hs : PlainIx o) (hK : X.K = K := by rfl) (hw : X.w = w := by rfl) : DE X W (.Subscript e o pos) (xOp (xIxK K w) ta tb) := by
  subst hK hw; exact de_ixK ha hb hs
theorem kinK {K : PySem.W.Frag} {w : World} {d : Addr} {es : Array DictEntry} {n : Nat} (D : KDict K w d es n) (hK : X.K = K := by rfl) (hw : X.w = w := by rfl) : OpD X (compareOp .In) (xInK K d false) := by
  subst hK hw; exact opd_inK D
theorem knotinK {K : PySem.W.Frag} {w : World} {d : Addr} {es : Array DictEntry} {n : Nat} (D : KDict K w d es n) (hK : X.K = K := by rfl) (hw : X.w = w := by rfl) : OpD X (compareOp .NotIn) (xInK K d true) := by
  subst hK hw; exact opd_notinK D
/-- C.f, a constant of a class -/
abbrev xCVal (C : Addr) (y : Y) (to : XE) : XE := fun r m F P => to r m (fun z m1 => z = .v (.ref C) ∧ F y m1) P
theorem de_cval {C : Addr} {mc : Value} {f : Str} {v : V} {u : Value} {y : Y} (ha : DE X W o to) (r : ClX.CRead X.K C mc) (c : ClX.CVal X.K C mc f v u) (rv : ∀ G, RV X.K G v y) (hb : attributeBase o f X.env (eval o X.env) = eval o X.env := by rfl) : DE X W (.Attribute o f pos) (xCVal C y to) := ⟨fun {G rr m σ H F P Q} rs rh hx cv cx =>
  se_of (ClX.pe_cval se_pe (hb := hb)) (ha.run rs rh hx (fun w z G1 m1 H1 e1 rh1 rv1 q => by
    obtain ⟨rfl, f⟩ := q
    cases rv1
    exact ⟨C, mc, v, u, rfl, r, c, cv v y G1 m1 H1 e1 rh1 (rv G1) f⟩) cx)⟩
end
section
variable {r : Ro} {m : Mu} {F : Y → Mu → Prop} {g : XG} {tt : XT} {te : XE} {vs : List Nat}
theorem lc_zip {fin : Addr → List Y → Mu → (Y → Mu → Prop) → Prop} {xs ys : List PyData} (h : PyData → PyData → Option Y) (hn : min xs.length ys.length ≤ 10000)
    (ht : ∀ x y M, x ∈ xs → y ∈ ys → Mle m M → ∀ (C : Y → Mu → Prop) (N : Mu → Prop), (∀ z M', h x y = some z → Mle M M' → C z M') → (∀ M', h x y = none → Mle M M' → N M') → g (.d (.tuple [x, y])) (wipeR r vs) M (fun r2 M2 => tt r2 M2 (fun b M3 => if b = true then te r2 M3 C P0 else N M3) P0))
    (hf : ∀ D M, m D = none → Mle (mu m D (.lst ((xs.zip ys).filterMap fun p => h p.1 p.2))) M → fin D ((xs.zip ys).filterMap fun p => h p.1 p.2) M F) : LcZ fin (wkZip xs ys) g tt te vs r m F := by
  have hl : (xs.zip ys).length = min xs.length ys.length := List.length_zip
  refine lc_go (k := wkZip xs ys) (fun i => (xs.zip ys)[i]?.bind fun p => h p.1 p.2) hn (fun _ _ => trivial) (fun i M hi hM C N hC hN => ?_) (fun D M hD hM => ?_)
  · have hi' : i < min xs.length ys.length := hi
    have e : (xs.zip ys)[i]? = some (xs[i], ys[i]) := by rw [List.getElem?_eq_getElem (by omega), List.getElem_zip]
    rw [e] at hC hN
    exact ⟨xs[i], ys[i], by simp, by simp, ht _ _ M (List.getElem_mem _) (List.getElem_mem _) hM C N hC hN⟩
  · have ef := fm_all (fun p : PyData × PyData => h p.1 p.2) (xs.zip ys)
    rw [hl] at ef
    have hM' : Mle (mu m D (.lst ((List.range (min xs.length ys.length)).filterMap fun i => (xs.zip ys)[i]?.bind fun p => h p.1 p.2))) M := hM
    show fin D ((List.range (min xs.length ys.length)).filterMap _) M F
    rw [ef] at hM' ⊢
    exact hf D M hD hM'
end
def okD (d : PyData) : Prop := d.showable = true ∧ d.hasDict = false ∧ d.depth ≤ 40 ∧ cst d ≤ 10000000
theorem tup3 {x y z : PyData} {M : Mu} {r : Ro} {g : XGs} {F : Ro → Mu → Prop} (h : g [.d x, .d y, .d z] r M F) : xgTup 3 g (.d (.tuple [x, y, z])) r M F := by
  refine ⟨[.d x, .d y, .d z], rfl, ?_, ?_, ?_, rfl, h⟩
  all_goals intro _ e; cases e
theorem tup2 {y z : Y} {M : Mu} {r : Ro} {x : Y} {g : XGs} {F : Ro → Mu → Prop} (hx : (∃ a b, y = .d a ∧ z = .d b ∧ x = .d (.tuple [a, b])) ∨ ∃ p, x = .l p ∧ M p = some (.tup [y, z])) (h : g [y, z] r M F) : xgTup 2 g x r M F := by
  rcases hx with ⟨a, b, rfl, rfl, rfl⟩ | ⟨p, rfl, e⟩
  · refine ⟨[.d a, .d b], rfl, ?_, ?_, ?_, rfl, h⟩
    all_goals intro _ e; cases e
  · refine ⟨[y, z], .inr e, ?_, ?_, ?_, rfl, h⟩
    · intro _ e; cases e
    · intro q e'; cases e'; exact e
    · intro _ e; cases e
theorem eq_int {o i : Int} {m : Mu} {F : Y → Mu → Prop} (h : F (.d (.bool (decide (o = i)))) m) : xEq (.d (.int o)) (.d (.int i)) m F := h
theorem at_last {α : Type} {xs : List α} {x : α} : atI (xs ++ [x]) (-1) = some x := by
  unfold atI ixN
  rw [if_neg (by decide), List.length_append, List.length_singleton, if_pos (by omega), Option.bind_some]
  rw [show (-1 + ((xs.length + 1 : Nat) : Int)).toNat = xs.length by omega, List.getElem?_append_right (Nat.le_refl _), Nat.sub_self]
  rfl
theorem at_nat {α : Type} {xs : List α} {n : Nat} {x : α} (h : xs[n]? = some x) : atI xs (n : Int) = some x := by
  obtain ⟨hl, -⟩ := List.getElem?_eq_some_iff.mp h
  unfold atI ixN
  rw [if_pos (Int.natCast_nonneg n), if_pos (by omega), Option.bind_some, Int.toNat_natCast, h]
theorem at_zero {α : Type} {x : α} {xs : List α} : atI (x :: xs) 0 = some x := at_nat (n := 0) rfl
theorem ix_nat {k n : Nat} (h : n < k) : ixN k (n : Int) = some n := by
  unfold ixN
  rw [if_pos (Int.natCast_nonneg n), if_pos (by omega), Int.toNat_natCast]
theorem sq_nat {k n : Nat} (h : n < k) : seqIndex? (n : Int) k = some n := by
  unfold seqIndex?
  simp only []
  rw [if_neg (by omega : ¬ (n : Int) < 0), if_pos (by simp; omega), Int.toNat_natCast]
theorem str_app (a b : Str) : (a ++ b).length = a.length + b.length := Array.size_append
theorem fmt_i {i : Int} (h : i.natAbs.log2 < 1920) : fmtY (.d (.int i)) = some (Str.ofString (toString i)) := if_pos h
theorem fmt_s {x : Str} (h : x.length ≤ 2000) : fmtY (.d (.str x)) = some x := if_pos h
theorem log_small {i : Int} (h : i.natAbs < 2 ^ 200) : i.natAbs.log2 < 1920 := by
  by_cases z : i.natAbs = 0
  · rw [z]; decide
  · exact Nat.lt_trans ((Nat.log2_lt z).mpr h) (by decide)
theorem iteD {p : Prop} [Decidable p] {A B : Prop} (h1 : p → A) (h2 : ¬p → B) : if decide p = true then A else B := by
  by_cases h : p
  · rw [if_pos (by simpa using h)]; exact h1 h
  · rw [if_neg (by simpa using h)]; exact h2 h
theorem iteE {k : Bool} {A B : Prop} (h : k = false) (b : B) : if k = true then A else B := by rw [if_neg (by simp [h])]; exact b
theorem iteI {k : Bool} {A B : Prop} (h : k = true) (a : A) : if k = true then A else B := by rw [if_pos h]; exact a
theorem map_erase {α β : Type} (f : α → β) : ∀ (xs : List α) (n : Nat), (xs.map f).eraseIdx n = (xs.eraseIdx n).map f
  | [], _ => rfl
  | _ :: _, 0 => rfl
  | x :: xs, n + 1 => congrArg (f x :: ·) (map_erase f xs n)
theorem fm_congr {α β : Type} {f g : α → Option β} : ∀ {xs : List α}, (∀ x ∈ xs, f x = g x) → xs.filterMap f = xs.filterMap g
  | [], _ => rfl
  | x :: xs, h => by rw [List.filterMap_cons, List.filterMap_cons, h x (by simp), fm_congr fun y hy => h y (by simp [hy])]
def flat1 (d : PyData) : Prop := d.canLay0 = true ∧ d.depth ≤ 3
theorem flat_list {n : Nat} {ds : List PyData} (h : ∀ d ∈ ds, d.canLay0 = true ∧ d.depth ≤ n) : (PyData.list ds).canLay0 = true ∧ (PyData.list ds).depth ≤ n + 1 := by
  have a : ∀ ds : List PyData, (∀ d ∈ ds, d.canLay0 = true ∧ d.depth ≤ n) → PyData.canLayAll0 ds = true ∧ PyData.depthAll ds ≤ n := by
    intro ds
    induction ds with
    | nil => intro _; simp [PyData.canLayAll0, PyData.depthAll]
    | cons d ds ih =>
      intro h
      obtain ⟨h1, h2⟩ := ih fun x hx => h x (by simp [hx])
      obtain ⟨h3, h4⟩ := h d (by simp)
      simp [PyData.canLayAll0, PyData.depthAll, h1, h3]
      omega
  obtain ⟨h1, h2⟩ := a ds h
  simp [PyData.canLay0, PyData.depth, h1]
  omega
theorem flat_shaped {d : PyData} (h : d.canLay0 = true ∧ d.depth ≤ 64) : SeqAt.shaped d = true := by unfold SeqAt.shaped; simp [h.1, h.2]
theorem flat_int {i : Int} : (PyData.int i).canLay0 = true ∧ (PyData.int i).depth ≤ 1 := by simp [PyData.canLay0, PyData.depth]
theorem flat_bool {b : Bool} : (PyData.bool b).canLay0 = true ∧ (PyData.bool b).depth ≤ 1 := by simp [PyData.canLay0, PyData.depth]
theorem flat_up {d : PyData} {n k : Nat} (h : d.canLay0 = true ∧ d.depth ≤ n) (l : n ≤ k) : d.canLay0 = true ∧ d.depth ≤ k := ⟨h.1, Nat.le_trans h.2 l⟩
theorem eqv_list (ds : List PyData) : PyData.eqv (.list ds) (.list []) = ds.isEmpty := by
  cases ds with
  | nil => exact eqv_nil
  | cons d ds => exact eqv_cons
theorem eq_nilD {ds : List PyData} {n : Nat} {m : Mu} {F : Y → Mu → Prop} (hd : ∀ d ∈ ds, d.canLay0 = true ∧ d.depth ≤ n) (hn : n ≤ 60) (h : F (.d (.bool ds.isEmpty)) m) : xEq (.d (.list ds)) (.d (.list [])) m F :=
  ⟨flat_shaped (flat_up (flat_list hd) (by omega)), flat_shaped (flat_up (flat_list (n := 0) fun _ h => by simp at h) (by omega)), by rw [eqv_list]; exact h⟩
theorem tru_b {m : Mu} (b : Bool) : TruY m (.d (.bool b)) b := rfl
theorem len1 {α : Type} (x : α) : [x].length ≤ 10000 := Nat.le_of_ble_eq_true rfl
theorem len2 {α : Type} (x y : α) : [x, y].length ≤ 10000 := Nat.le_of_ble_eq_true rfl
theorem len3 {α : Type} (x y z : α) : [x, y, z].length ≤ 10000 := Nat.le_of_ble_eq_true rfl
theorem len4 {α : Type} (x y z t : α) : [x, y, z, t].length ≤ 10000 := Nat.le_of_ble_eq_true rfl
theorem flat_ints (vs : List Int) : (vs.map PyData.int).all flatD = true := by
  induction vs with
  | nil => rfl
  | cons v vs ih => rw [List.map_cons, List.all_cons, ih]; rfl
theorem look_here {α : Type} {x y : Str} {v : α} {r : List (Str × α)} (h : (x == y) = true) : ((y, v) :: r).lookup x = some v := by rw [List.lookup_cons, h]
theorem look_past {α : Type} {x y : Str} {v : α} {r : List (Str × α)} (h : (x == y) = false) : ((y, v) :: r).lookup x = r.lookup x := by rw [List.lookup_cons, h]
def Fr (S : Addr → Prop) (m m' : Mu) : Prop := ∀ x o, ¬ S x → m x = some o → m' x = some o
theorem Fr.of {S : Addr → Prop} {m m' : Mu} (h : Mle m m') : Fr S m m' := fun x o _ e => h x o e
theorem Fr.then {S : Addr → Prop} {m m' m2 : Mu} (h : Fr S m m') (h2 : Mle m' m2) : Fr S m m2 := fun x o n e => h2 x o (h x o n e)
theorem zip_lt {α : Type} : ∀ (xs : List α) (n : Nat), (xs.zipIdx n).Pairwise fun a b => a.2 < b.2
  | [], _ => .nil
  | x :: xs, n => by
    rw [List.zipIdx_cons]
    refine .cons (fun p hp => ?_) (zip_lt xs (n + 1))
    obtain ⟨y, j⟩ := p
    have := (List.mem_zipIdx hp).1
    show n < j
    omega
def PenL (l : List Y) : Prop := ∃ x y z : Int, 0 ≤ x ∧ 0 ≤ y ∧ y < 4294967296 ∧ l = [.d (.int x), .d (.int y), .d (.int z)]
section
variable {K : PySem.W.Frag}
def isI (d : PyData) : Bool := match d with
  | .int _ => true
  | .bool _ => true
  | _ => false
def isBl (d : PyData) : Bool := match d with
  | .bool _ => true
  | _ => false
theorem isi_int (d : PyData) : PySem.W.kitOne K (.type (tyD d)) (.type "int") = some (isI d) := by
  have h1 : kitB "NoneType" "int" = some false := by decide +kernel
  have h2 : kitB "bool" "int" = some true := by decide +kernel
  have h3 : kitB "int" "int" = some true := by decide +kernel
  have h4 : kitB "str" "int" = some false := by decide +kernel
  have h5 : kitB "list" "int" = some false := by decide +kernel
  have h6 : kitB "tuple" "int" = some false := by decide +kernel
  have h7 : kitB "dict" "int" = some false := by decide +kernel
  cases d <;> first | exact kit_ty h1 | exact kit_ty h2 | exact kit_ty h3 | exact kit_ty h4 | exact kit_ty h5 | exact kit_ty h6 | exact kit_ty h7
theorem isi_bool (d : PyData) : PySem.W.kitOne K (.type (tyD d)) (.type "bool") = some (isBl d) := by
  have h1 : kitB "NoneType" "bool" = some false := by decide +kernel
  have h2 : kitB "bool" "bool" = some true := by decide +kernel
  have h3 : kitB "int" "bool" = some false := by decide +kernel
  have h4 : kitB "str" "bool" = some false := by decide +kernel
  have h5 : kitB "list" "bool" = some false := by decide +kernel
  have h6 : kitB "tuple" "bool" = some false := by decide +kernel
  have h7 : kitB "dict" "bool" = some false := by decide +kernel
  cases d <;> first | exact kit_ty h1 | exact kit_ty h2 | exact kit_ty h3 | exact kit_ty h4 | exact kit_ty h5 | exact kit_ty h6 | exact kit_ty h7
end
theorem ok_small {i : Int} (h : -1000 ≤ i ∧ i ≤ 1000) : (PyData.int i).showable = true := by
  have : i.natAbs.log2 < 1920 := log_small (Nat.lt_of_le_of_lt (show i.natAbs ≤ 1000 by omega) (by decide +kernel))
  simpa [PyData.showable] using this
theorem ok_list {ds : List PyData} {n c : Nat} (h : ∀ d ∈ ds, d.showable = true ∧ d.hasDict = false ∧ d.depth ≤ n ∧ cst d ≤ c) : PyData.showableAll ds = true ∧ PyData.hasDictAll ds = false ∧ PyData.depthAll ds ≤ n ∧ cstA ds ≤ ds.length * (c + 2) := by
  induction ds with
  | nil => simp [PyData.showableAll, PyData.hasDictAll, PyData.depthAll, cstA]
  | cons d ds ih =>
    obtain ⟨h1, h2, h3, h4⟩ := ih fun x hx => h x (by simp [hx])
    obtain ⟨g1, g2, g3, g4⟩ := h d (by simp)
    refine ⟨by simp [PyData.showableAll, h1, g1], by simp [PyData.hasDictAll, h2, g2], by simp [PyData.depthAll]; omega, ?_⟩
    simp only [cstA, List.length_cons, Nat.add_mul, Nat.one_mul]
    omega
abbrev ok4 (d : PyData) (n c : Nat) : Prop := d.showable = true ∧ d.hasDict = false ∧ d.depth ≤ n ∧ cst d ≤ c
theorem ok4_tup {ds : List PyData} {n c : Nat} (h : ∀ d ∈ ds, ok4 d n c) : ok4 (.tuple ds) (n + 1) (3 + ds.length * (c + 2)) := by
  obtain ⟨h1, h2, h3, h4⟩ := ok_list h
  exact ⟨by simpa [PyData.showable] using h1, by simpa [PyData.hasDict] using h2, by simp [PyData.depth]; omega, by simp only [cst]; omega⟩
theorem ok4_lst {ds : List PyData} {n c : Nat} (h : ∀ d ∈ ds, ok4 d n c) : ok4 (.list ds) (n + 1) (3 + ds.length * (c + 2)) := by
  obtain ⟨h1, h2, h3, h4⟩ := ok_list h
  exact ⟨by simpa [PyData.showable] using h1, by simpa [PyData.hasDict] using h2, by simp [PyData.depth]; omega, by simp only [cst]; omega⟩
theorem ok4_int {i : Int} (h : -1000 ≤ i ∧ i ≤ 1000) : ok4 (.int i) 1 2000 := ⟨ok_small h, by simp [PyData.hasDict], by simp [PyData.depth], by simp only [cst]; omega⟩
theorem ok4_up {d : PyData} {n c n' c' : Nat} (h : ok4 d n c) (h1 : n ≤ n') (h2 : c ≤ c') : ok4 d n' c' := ⟨h.1, h.2.1, Nat.le_trans h.2.2.1 h1, Nat.le_trans h.2.2.2 h2⟩
theorem ok4_ok {d : PyData} {n c : Nat} (h : ok4 d n c) (h1 : n ≤ 40) (h2 : c ≤ 10000000) : okD d := ⟨h.1, h.2.1, Nat.le_trans h.2.2.1 h1, Nat.le_trans h.2.2.2 h2⟩
theorem ok_bool (b : Bool) : okD (.bool b) := ⟨by simp [PyData.showable], by simp [PyData.hasDict], by simp [PyData.depth], by simp only [cst]; omega⟩
theorem ok4_none : ok4 .none 1 2000 := ⟨by simp [PyData.showable], by simp [PyData.hasDict], by simp [PyData.depth], by simp only [cst]; omega⟩
theorem ok_none : okD .none := ok4_ok ok4_none (by decide) (by decide)
theorem flat_tuple {n : Nat} {ds : List PyData} (h : ∀ d ∈ ds, d.canLay0 = true ∧ d.depth ≤ n) : (PyData.tuple ds).canLay0 = true ∧ (PyData.tuple ds).depth ≤ n + 1 := by
  obtain ⟨h1, h2⟩ := flat_list h
  exact ⟨by simpa [PyData.canLay0] using h1, by simpa [PyData.depth] using h2⟩
theorem flat_is {ns : List Int} : ∀ d ∈ ns.map PyData.int, d.canLay0 = true ∧ d.depth ≤ 1 := fun d hd => by
  obtain ⟨p, _, rfl⟩ := List.mem_map.mp hd
  exact flat_int
theorem shp_i (ns : List Int) : SeqAt.shaped (.list (ns.map PyData.int)) = true := flat_shaped (flat_up (flat_list flat_is) (by decide))
theorem eqv_me {d : PyData} (h : SeqAt.shaped d = true) : PyData.eqv d d = true := PySem.SeqAt.eqv_refl d (shaped_lay h)
theorem eqv_t0 (ds : List PyData) : PyData.eqv (.tuple ds) (.tuple []) = ds.isEmpty := by
  cases ds <;> simp [PyData.eqv, PyData.eqvAll]
theorem srtD_int {ns : List Int} (h : ns.Pairwise (· ≤ ·)) : srtD (ns.map PyData.int) = ns.map PyData.int := by
  unfold srtD
  refine List.mergeSort_of_pairwise (List.pairwise_map.mpr (h.imp fun {a b} hab => ?_))
  have e := congrFun (congrFun (PySem.W.dataLe_int (β := Int) (fun k => k)) a) b
  exact e.trans (decide_eq_true hab)
theorem sorted_is {ns : List Int} {m : Mu} {F : Y → Mu → Prop} (hl : ns.length ≤ 10000) (hp : ns.Pairwise (· ≤ ·)) (h : F (.d (.list (ns.map PyData.int))) m) : xSortedD [.d (.list (ns.map PyData.int))] m F := by
  refine ⟨_, ns.map PyData.int, rfl, rfl, PySem.W.AllAlike.of fun _ _ => rfl, PySem.W.Sortable.others fun b => ⟨by simp, by simp⟩, ?_, by rw [List.length_map]; exact hl, fun d hd => Nat.le_trans (flat_is d hd).2 (by decide), by rw [srtD_int hp]; exact h⟩
  clear hl hp h
  induction ns with
  | nil => rfl
  | cons p ps ih => simpa [PyData.hasDictAll, PyData.hasDict] using ih
theorem len6 {α : Type} (a b c d e f : α) : [a, b, c, d, e, f].length ≤ 10000 := Nat.le_of_ble_eq_true rfl
theorem kTT {K : PySem.W.Frag} {ds : List PyData} : PySem.W.kitOne K (.type (tyD (.tuple ds))) (.type "tuple") = some true := kit_ty (show kitB "tuple" "tuple" = some true by decide +kernel)

theorem and_off {b : Bool} {A B : Prop} (h : B) (ha : b = true → B → A) : if b = true then A else B := by
  cases b
  · exact h
  · exact ha rfl h
theorem mu_none {m : Mu} {a p : Addr} {o : MO} (h : mu m a o p = none) : p ≠ a ∧ m p = none := by
  by_cases e : p = a
  · subst e; rw [mu_same] at h; cases h
  · exact ⟨e, by rwa [mu_ne e] at h⟩
theorem made_le {m m' : Mu} {a p : Addr} {o u v : MO} (na : m a = none) (np : mu m a o p = none) (h : Mle (mu (mu (mu m a o) p u) a v) m') : Mle m m' := fun x w e => h x w (by
  obtain ⟨_, hp⟩ := mu_none np
  have h1 : x ≠ a := fun z => by rw [z, na] at e; cases e
  have h2 : x ≠ p := fun z => by rw [z, hp] at e; cases e
  rw [mu_ne h1, mu_ne h2, mu_ne h1]; exact e)
def fn3 {α : Type} (x y z : α) : Nat → α := fun j => if j = 0 then x else if j = 1 then y else z
theorem vc_eqc {v : Nat} {i o : Int} {r : Ro} {m : Mu} {F : Bool → Mu → Prop} {P : XP} (h1 : r[v]? = some (some (.d (.int o)))) (h2 : F (decide (o = i)) m) : xB (xOp xEq (xVar v) (xC (.d (.int i)))) r m F P :=
  ⟨_, h1, eq_int (F := fun y m1 => ∃ k, y = .d (.bool k) ∧ F k m1) ⟨_, rfl, h2⟩⟩
theorem len0 {α : Type} : ([] : List α).length ≤ 10000 := Nat.zero_le _
theorem alt_meth {C0 C1 C2 a dx : Addr} {nm : Str} {D : Nat → DSp} {ta : XA} {i j : Nat} {r : Ro} {m : Mu} {F : Y → Mu → Prop} {P : XP} {gs : List (Str × Y)} (hj : j < 3) (hr : r[i]? = some (some (.l a))) (ho : m a = some (.ins (fn3 C0 C1 C2 j) dx gs)) (hn : gs.lookup nm = none)
    (h : ta r m (fun ys m2 => D j (.l a :: (ys ++ [])) m2 F P) P) : xMeth C0 nm (D 0) [] (xVar i) ta r m F P ∨ (xMeth C1 nm (D 1) [] (xVar i) ta r m F P ∨ xMeth C2 nm (D 2) [] (xVar i) ta r m F P) := by
  match j, hj with
  | 0, _ => exact .inl ⟨_, hr, a, dx, gs, rfl, ho, hn, h⟩
  | 1, _ => exact .inr (.inl ⟨_, hr, a, dx, gs, rfl, ho, hn, h⟩)
  | 2, _ => exact .inr (.inr ⟨_, hr, a, dx, gs, rfl, ho, hn, h⟩)
def any3 (d : Nat → DSp) : DSp := fun ys m F P => ∃ j, j < 3 ∧ d j ys m F P
theorem any3_of {pr : Program} {w : World} {K : PySem.W.Frag} {mg : Str → Option Value} {base : Heap} {k : Nat} {f : Addr} {fd : FuncData} {ps : List Str} {d : Nat → DSp} (h0 : FnD pr w K mg base k f fd ps (d 0)) (h1 : FnD pr w K mg base k f fd ps (d 1)) (h2 : FnD pr w K mg base k f fd ps (d 2)) : FnD pr w K mg base k f fd ps (any3 d) :=
  (h0.or (h1.or h2)).imp fun ys m F P ⟨j, hj, h⟩ => by
    match j, hj with
    | 0, _ => exact .inl h
    | 1, _ => exact .inr (.inl h)
    | 2, _ => exact .inr (.inr h)
theorem deep_ds {m : Mu} : ∀ ds : List PyData, DeepYs m (ds.map Y.d) ds
  | [] => .nil
  | d :: ds => .cons (.d d) (deep_ds ds)
end Dl
namespace Dl
open PySem PySem.Spec PyProof.Rows L2 Evl
theorem Room.u1 {k : Nat} {A : Around} (hr : L2.Room k A) : A.units + 1 < cLine := by have := Dl.Room.u64 hr; omega
/-! ### models: instructions, what they may hold -/
inductive Ins where
  | op (w : Str) (ns : List Int)
  | rep (n : Int) (b : List Ins)
  | fore (b : List Ins)
mutual
def insD : Ins → PyData
  | .op w ns => .tuple (.str w :: ns.map PyData.int)
  | .rep n b => .tuple [.str "repeat", .int n, .tuple (inssD b)]
  | .fore b => .tuple [.str "forever", .tuple (inssD b)]
def inssD : List Ins → List PyData
  | [] => []
  | i :: is => insD i :: inssD is
end
theorem inssD_map : ∀ is : List Ins, inssD is = is.map insD
  | [] => rfl
  | i :: is => by rw [inssD, inssD_map is]; rfl
abbrev scrD (is : List Ins) : PyData := .tuple (is.map insD)
theorem insD_rep (n : Int) (b : List Ins) : insD (.rep n b) = .tuple [.str "repeat", .int n, scrD b] := by rw [insD, inssD_map]
theorem insD_fore (b : List Ins) : insD (.fore b) = .tuple [.str "forever", scrD b] := by rw [insD, inssD_map]
/-- the ten plain instructions and what their numbers stand for -/
def kindsL : List (Str × List Str) := [("wait", ["time"]), ("take", ["resource", "rank"]), ("give", ["resource"]), ("put", ["store", "item"]), ("get", ["store"]), ("pass", ["gate"]), ("open", ["gate"]), ("shut", ["gate"]), ("rouse", ["process"]), ("mark", ["mark"])]
structure Lims where
  nr : Int
  ns : Int
  ng : Int
  np : Int
def lastL (L : Lims) : List (Str × PyData) := [("time", .none), ("resource", .int (L.nr - 1)), ("rank", .int 9), ("store", .int (L.ns - 1)), ("item", .int 99), ("gate", .int (L.ng - 1)), ("process", .int (L.np - 1)), ("mark", .int 999)]
def lastD (L : Lims) : PyData := .dict ((lastL L).map fun p => (.str p.1, p.2))
def lastOf (L : Lims) (k : Str) : PyData := ((lastL L).lookup k).getD .none
/-- a whole number from lo to hi; no end where hi is None -/
def isBn (d : PyData) (lo : Int) (hi : PyData) : Bool := match d, hi with
  | .int x, .int h => decide (lo ≤ x) && decide (x ≤ h)
  | .int x, .none => decide (lo ≤ x)
  | _, _ => false
def isT (d : PyData) (lo : Int) (hi : PyData) : Bool := match d with
  | .tuple ds => isBn (.int ds.length) lo hi
  | _ => false
def okOp (L : Lims) (w : Str) (ns : List Int) : Bool := match kindsL.lookup w with
  | some ks => decide (ns.length = ks.length) && (ns.zip ks).all fun p => isBn (.int p.1) 0 (lastOf L p.2)
  | none => false
mutual
def okI (L : Lims) (j : Int) : Ins → Bool
  | .op w ns => okOp L w ns
  | .rep n b => decide (j ≤ 3) && (isBn (.int n) 0 (.int 5) && (!b.isEmpty && okIs L (j + 1) b))
  | .fore _ => false
def okIs (L : Lims) (j : Int) : List Ins → Bool
  | [] => true
  | i :: is => okI L j i && okIs L j is
end
theorem okIs_all (L : Lims) (j : Int) : ∀ is : List Ins, okIs L j is = is.all (okI L j)
  | [] => rfl
  | i :: is => by rw [okIs, okIs_all L j is]; rfl
def isFore (L : Lims) : Ins → Bool
  | .fore b => !b.isEmpty && b.all (okI L 2)
  | _ => false
def okScr (L : Lims) (is : List Ins) : Bool := match is.getLast? with
  | some i => if isFore L i then is.dropLast.all (okI L 1) else is.all (okI L 1)
  | none => true
/-- the facts of the written dict -/
structure KinF (K : PySem.W.Frag) (w : World) (a : Addr) : Prop where
  D : ∃ es n, KDict K w a es n
  t : ∀ q ∈ kindsL, ∃ p, PySem.W.nsIn K a q.1 = some (some (.ref p)) ∧ TupK K p q.2
  nf : PySem.W.nsIn K a "forever" = some none
  nr : PySem.W.nsIn K a "repeat" = some none
theorem look_mem {w : Str} {ks : List Str} : ∀ {l : List (Str × List Str)}, l.lookup w = some ks → (w, ks) ∈ l
  | [], h => by simp at h
  | (x, y) :: l, h => by
    rw [List.lookup_cons] at h
    by_cases e : (w == x) = true
    · rw [e] at h
      cases h
      rw [eq_of_beq e]; simp
    · have e' : (w == x) = false := by simpa using e
      rw [e'] at h
      exact List.mem_cons_of_mem _ (look_mem h)
theorem KinF.get {K : PySem.W.Frag} {w : World} {a : Addr} (h : KinF K w a) {x : Str} {ks : List Str} (e : kindsL.lookup x = some ks) : ∃ p, PySem.W.nsIn K a x = some (some (.ref p)) ∧ TupK K p ks ∧ KDct K w a x (.ref p) := by
  obtain ⟨p, h1, h2⟩ := h.t _ (look_mem e)
  obtain ⟨es, n, D⟩ := h.D
  exact ⟨p, h1, h2, es, n, .ref p, D.at_, D.lit, h1, rfl⟩
theorem last_get (L : Lims) {k : Str} {d : PyData} (h : (lastL L).lookup k = some d) : dGet ((lastL L).map fun p => (.str p.1, p.2)) k = some d := by
  generalize lastL L = l at h
  induction l with
  | nil => simp at h
  | cons p l ih =>
    obtain ⟨x, y⟩ := p
    rw [List.lookup_cons] at h
    unfold dGet at ih ⊢
    rw [List.map_cons, List.find?_cons]
    by_cases e : (k == x) = true
    · rw [e] at h
      cases h
      have := eq_of_beq e
      subst this
      simp
    · have e' : (k == x) = false := by simpa using e
      rw [e'] at h
      have : ¬ x = k := fun z => by subst z; simp at e
      simpa [this] using ih h
theorem kinds_last (L : Lims) : ∀ q ∈ kindsL, ∀ k ∈ q.2, (lastL L).lookup k = some (lastOf L k) := by
  have h : ∀ k : Str, (["time", "resource", "rank", "store", "item", "gate", "process", "mark"] : List Str).contains k = true → ((lastL L).lookup k).isSome = true := by
    intro k hk
    have e : ((lastL L).map (·.1)) = (["time", "resource", "rank", "store", "item", "gate", "process", "mark"] : List Str) := rfl
    rw [← e] at hk
    generalize lastL L = l at hk
    induction l with
    | nil => simp at hk
    | cons p l ih =>
      rw [List.lookup_cons]
      by_cases e : (k == p.1) = true
      · rw [e]; rfl
      · have e' : (k == p.1) = false := by simpa using e
        rw [e']
        refine ih ?_
        rw [List.map_cons, List.contains_cons, e', Bool.false_or] at hk
        exact hk
  have c : kindsL.all (fun q => q.2.all fun k => (["time", "resource", "rank", "store", "item", "gate", "process", "mark"] : List Str).contains k) = true := by decide +kernel
  intro q hq k hk
  have h1 := List.all_eq_true.mp (List.all_eq_true.mp c q hq) k hk
  obtain ⟨d, hd⟩ := Option.isSome_iff_exists.mp (h k h1)
  unfold lastOf
  rw [hd]; rfl

structure Mod where
  res : List (Str × Int)
  sto : List (Int × List Int)
  gat : List Str
  scr : List (List Ins)
def resD (p : Str × Int) : PyData := .tuple [.str p.1, .int p.2]
def stoD (p : Int × List Int) : PyData := .tuple [.int p.1, .tuple (p.2.map PyData.int)]
def modD (M : Mod) : PyData := .tuple [.tuple (M.res.map resD), .tuple (M.sto.map stoD), .tuple (M.gat.map PyData.str), .tuple (M.scr.map scrD)]
def limsOf (M : Mod) : Lims := ⟨M.res.length, M.sto.length, M.gat.length, M.scr.length⟩
def discL : List Str := ["fifo", "rank", "preempt"]
def gateL : List Str := ["open", "shut"]
def okRes (p : Str × Int) : Bool := decide (p.1 ∈ discL) && isBn (.int p.2) 1 (.int 3)
def okSto (p : Int × List Int) : Bool := isBn (.int p.1) 1 (.int 4) && (isBn (.int p.2.length) 0 (.int p.1) && p.2.all fun i => isBn (.int i) 0 (.int 99))
def okM (M : Mod) : Bool := decide ((M.res.length : Int) ≤ 4) && (decide ((M.sto.length : Int) ≤ 3) && (decide ((M.gat.length : Int) ≤ 3) && ((decide ((1 : Int) ≤ M.scr.length) && decide ((M.scr.length : Int) ≤ 6)) && (M.res.all okRes && (M.sto.all okSto && ((M.gat.all fun g => decide (g ∈ gateL)) && M.scr.all (okScr (limsOf M))))))))
theorem bAnd {a b : Bool} {A : Prop} {F : Y → Mu → Prop} {m m1 : Mu} (h : ∀ m', Mle m m' → F (.d (.bool (a && b))) m') (hm : Mle m m1) (hA : (∀ m', Mle m m' → F (.d (.bool b)) m') → a = true → A) : if a = true then A else F (.d (.bool false)) m1 := by
  cases a with
  | true => exact hA h rfl
  | false => exact h m1 hm
theorem inD_str {x : Str} : ∀ {xs : List Str}, inD (.str x) (xs.map PyData.str) = decide (x ∈ xs)
  | [] => rfl
  | y :: ys => by
    have ih := inD_str (x := x) (xs := ys)
    unfold inD inV at ih ⊢
    rw [List.map_cons, List.map_cons, List.any_cons, ih]
    by_cases h : x = y
    · subst h; simp [toV, eqV]
    · by_cases h2 : x ∈ ys <;> simp [toV, eqV, h, h2, Ne.symm h]
theorem flat_strs : ∀ xs : List Str, (xs.map PyData.str).all flatD = true
  | [] => rfl
  | x :: xs => by rw [List.map_cons, List.all_cons, flat_strs xs]; rfl
theorem tup4 {x y z t : PyData} {M : Mu} {r : Ro} {g : XGs} {F : Ro → Mu → Prop} (h : g [.d x, .d y, .d z, .d t] r M F) : xgTup 4 g (.d (.tuple [x, y, z, t])) r M F := by
  refine ⟨[.d x, .d y, .d z, .d t], rfl, ?_, ?_, ?_, rfl, h⟩
  all_goals intro _ e; cases e
def isTu (d : PyData) : Bool := match d with
  | .tuple _ => true
  | _ => false
def isSt (d : PyData) : Bool := match d with
  | .str _ => true
  | _ => false
theorem isi_tuple {K : PySem.W.Frag} (d : PyData) : PySem.W.kitOne K (.type (tyD d)) (.type "tuple") = some (isTu d) := by
  have h1 : kitB "NoneType" "tuple" = some false := by decide +kernel
  have h2 : kitB "bool" "tuple" = some false := by decide +kernel
  have h3 : kitB "int" "tuple" = some false := by decide +kernel
  have h4 : kitB "str" "tuple" = some false := by decide +kernel
  have h5 : kitB "list" "tuple" = some false := by decide +kernel
  have h6 : kitB "tuple" "tuple" = some true := by decide +kernel
  have h7 : kitB "dict" "tuple" = some false := by decide +kernel
  cases d <;> first | exact kit_ty h1 | exact kit_ty h2 | exact kit_ty h3 | exact kit_ty h4 | exact kit_ty h5 | exact kit_ty h6 | exact kit_ty h7
theorem isi_str {K : PySem.W.Frag} (d : PyData) : PySem.W.kitOne K (.type (tyD d)) (.type "str") = some (isSt d) := by
  have h1 : kitB "NoneType" "str" = some false := by decide +kernel
  have h2 : kitB "bool" "str" = some false := by decide +kernel
  have h3 : kitB "int" "str" = some false := by decide +kernel
  have h4 : kitB "str" "str" = some true := by decide +kernel
  have h5 : kitB "list" "str" = some false := by decide +kernel
  have h6 : kitB "tuple" "str" = some false := by decide +kernel
  have h7 : kitB "dict" "str" = some false := by decide +kernel
  cases d <;> first | exact kit_ty h1 | exact kit_ty h2 | exact kit_ty h3 | exact kit_ty h4 | exact kit_ty h5 | exact kit_ty h6 | exact kit_ty h7
theorem iteB {k : Bool} {A B : Prop} (h1 : k = true → A) (h2 : k = false → B) : if k = true then A else B := by
  cases k
  · exact h2 rfl
  · exact h1 rfl
theorem hi_ok {hi : PyData} {x lo : Int} (hh : hi = .none ∨ ∃ h, hi = .int h) : isBn (.int x) lo hi = (decide (lo ≤ x) && (isN (.d hi) || (match hi with | .int h => decide (x ≤ h) | _ => false))) := by
  rcases hh with rfl | ⟨h, rfl⟩
  · simp [isBn, isN]
  · simp [isBn, isN]
/-! the comprehension's truth values -/
theorem all_bools {α : Type} (f : α → Bool) : ∀ xs : List α, (xs.map f).all id = xs.all f
  | [] => rfl
  | x :: xs => by rw [List.map_cons, List.all_cons, List.all_cons, all_bools f xs]; rfl
/-! ### facts of the text -/
structure Txt (K : PySem.W.Frag) (mg : Str → Option Value) : Prop where
  b_isinstance : mg "isinstance" = none
  b_int : mg "int" = none
  b_bool : mg "bool" = none
  b_len : mg "len" = none
  b_tuple : mg "tuple" = none
  b_str : mg "str" = none
  b_all : mg "all" = none
  b_range : mg "range" = none
  b_zip : mg "zip" = none
  b_repr : mg "repr" = none
  b_max : mg "max" = none
  b_min : mg "min" = none
  b_enumerate : mg "enumerate" = none
  b_list : mg "list" = none
  b_sum : mg "sum" = none
  c_LAST_ITEM : ∃ t, mg "LAST_ITEM" = some (.int 99 t)
  c_LAST_MARK : ∃ t, mg "LAST_MARK" = some (.int 999 t)
  c_LAST_RANK : ∃ t, mg "LAST_RANK" = some (.int 9 t)
  c_MOST_CAPACITY : ∃ t, mg "MOST_CAPACITY" = some (.int 4 t)
  c_MOST_DEPTH : ∃ t, mg "MOST_DEPTH" = some (.int 3 t)
  c_MOST_GATES : ∃ t, mg "MOST_GATES" = some (.int 3 t)
  c_MOST_RESOURCES : ∃ t, mg "MOST_RESOURCES" = some (.int 4 t)
  c_MOST_SCRIPTS : ∃ t, mg "MOST_SCRIPTS" = some (.int 6 t)
  c_MOST_STORES : ∃ t, mg "MOST_STORES" = some (.int 3 t)
  c_MOST_TIMES : ∃ t, mg "MOST_TIMES" = some (.int 5 t)
  c_DISCIPLINES : ∃ p, mg "DISCIPLINES" = some (.ref p) ∧ TupK K p discL
  c_GATE_WORDS : ∃ p, mg "GATE_WORDS" = some (.ref p) ∧ TupK K p gateL
end Dl
/-! D22: comprehensions over typed data. -/
namespace Dl
open PySem PySem.Spec PyProof.Rows L2 Evl
section
variable {r : Ro} {m : Mu} {F : Y → Mu → Prop} {g : XG} {tt : XT} {te : XE} {vs : List Nat}
theorem lc_typed {α : Type} (enc : α → PyData) (f : α → PyData) {xs : List α} {y : Y} (hn : xs.length ≤ 10000) (hy : ∀ p, y ≠ .l p)
    (ht : ∀ x M, x ∈ xs → Mle m M → ∀ (C : Y → Mu → Prop) (N : Mu → Prop), (∀ M', Mle M M' → C (.d (f x)) M') → g (.d (enc x)) (wipeR r vs) M (fun r2 M2 => tt r2 M2 (fun b M3 => if b = true then te r2 M3 C P0 else N M3) P0))
    (hf : ∀ m', Mle m m' → F (.d (.list (xs.map f))) m') : LcZ finD (wkSeq m y ((xs.map enc).map Y.d)) g tt te vs r m F := by
  have hl : ((xs.map enc).map Y.d).length = xs.length := by rw [List.length_map, List.length_map]
  refine lc_go (k := wkSeq m y ((xs.map enc).map Y.d)) (fun i => xs[i]?.map fun x => Y.d (f x)) (by show ((xs.map enc).map Y.d).length ≤ _; rw [hl]; exact hn) (fun M hM p e => absurd e (hy p)) (fun i M hi hM C N hC hN => ?_) (fun D M hD hM => ?_)
  · have hi' : i < xs.length := by
      have hi2 : i < ((xs.map enc).map Y.d).length := hi
      rwa [hl] at hi2
    have e1 : xs[i]? = some xs[i] := List.getElem?_eq_getElem hi'
    rw [e1] at hC hN
    exact ⟨.d (enc xs[i]), by rw [List.getElem?_map, List.getElem?_map, e1]; rfl, ht _ M (List.getElem_mem hi') hM C N fun m' hm' => hC _ m' rfl hm'⟩
  · have ek : (List.range ((xs.map enc).map Y.d).length).filterMap (fun i => xs[i]?.map fun x => Y.d (f x)) = (xs.map f).map Y.d := by
      rw [hl]
      have := fm_all (fun x => some (Y.d (f x))) xs
      rw [show (fun i => xs[i]?.map fun x => Y.d (f x)) = fun i => xs[i]?.bind fun x => some (Y.d (f x)) by funext i; cases xs[i]? <;> rfl, this, List.filterMap_eq_map', List.map_map]
      rfl
    have hM' : Mle (mu m D (.lst ((List.range ((xs.map enc).map Y.d).length).filterMap (fun i => xs[i]?.map fun x => Y.d (f x))))) M := hM
    show finD D ((List.range ((xs.map enc).map Y.d).length).filterMap _) M F
    rw [ek] at hM' ⊢
    exact fin_d _ rfl hD hM' hf
theorem lc_typedO {α : Type} (enc : α → PyData) (f : α → Option PyData) {xs : List α} {y : Y} (hn : xs.length ≤ 10000) (hy : ∀ p, y = .l p → m p ≠ none)
    (ht : ∀ x M, x ∈ xs → Mle m M → ∀ (C : Y → Mu → Prop) (N : Mu → Prop), (∀ d M', f x = some d → Mle M M' → C (.d d) M') → (∀ M', f x = none → Mle M M' → N M') → g (.d (enc x)) (wipeR r vs) M (fun r2 M2 => tt r2 M2 (fun b M3 => if b = true then te r2 M3 C P0 else N M3) P0))
    (hf : ∀ m', Mle m m' → F (.d (.list (xs.filterMap f))) m') : LcZ finD (wkSeq m y ((xs.map enc).map Y.d)) g tt te vs r m F := by
  have hl : ((xs.map enc).map Y.d).length = xs.length := by rw [List.length_map, List.length_map]
  refine lc_go (k := wkSeq m y ((xs.map enc).map Y.d)) (fun i => xs[i]?.bind fun x => (f x).map Y.d) (by show ((xs.map enc).map Y.d).length ≤ _; rw [hl]; exact hn) (fun M hM p e => ?_) (fun i M hi hM C N hC hN => ?_) (fun D M hD hM => ?_)
  · cases q : m p with
    | none => exact absurd q (hy p e)
    | some o => exact hM p o q
  · have hi' : i < xs.length := by
      have hi2 : i < ((xs.map enc).map Y.d).length := hi
      rwa [hl] at hi2
    have e1 : xs[i]? = some xs[i] := List.getElem?_eq_getElem hi'
    rw [e1] at hC hN
    exact ⟨.d (enc xs[i]), by rw [List.getElem?_map, List.getElem?_map, e1]; rfl, ht _ M (List.getElem_mem hi') hM C N (fun d m' hd hm' => hC _ m' (by show (f xs[i]).map Y.d = _; rw [hd]; rfl) hm') (fun m' hd hm' => hN m' (by show (f xs[i]).map Y.d = _; rw [hd]; rfl) hm')⟩
  · have ek : (List.range ((xs.map enc).map Y.d).length).filterMap (fun i => xs[i]?.bind fun x => (f x).map Y.d) = (xs.filterMap f).map Y.d := by
      rw [hl, fm_all (fun x => (f x).map Y.d) xs, List.map_filterMap]
    have hM' : Mle (mu m D (.lst ((List.range ((xs.map enc).map Y.d).length).filterMap (fun i => xs[i]?.bind fun x => (f x).map Y.d)))) M := hM
    show finD D ((List.range ((xs.map enc).map Y.d).length).filterMap _) M F
    rw [ek] at hM' ⊢
    exact fin_d _ rfl hD hM' hf
theorem lc_rng (f : Nat → PyData) {n : Nat} (hn : n ≤ 10000)
    (ht : ∀ i M, i < n → Mle m M → ∀ (C : Y → Mu → Prop) (N : Mu → Prop), (∀ M', Mle M M' → C (.d (f i)) M') → g (.d (.int (0 + (i : Int)))) (wipeR r vs) M (fun r2 M2 => tt r2 M2 (fun b M3 => if b = true then te r2 M3 C P0 else N M3) P0))
    (hf : ∀ m', Mle m m' → F (.d (.list ((List.range n).map f))) m') : LcZ finD (wkRange 0 n) g tt te vs r m F := by
  refine lc_go (k := wkRange 0 n) (fun i => some (.d (f i))) hn (fun _ _ => trivial) (fun i M hi hM C N hC hN => ht i M hi hM C N fun M' hM' => hC _ M' rfl hM') (fun D M hD hM => ?_)
  have ek : (List.range n).filterMap (fun i => some (Y.d (f i))) = ((List.range n).map f).map Y.d := by rw [List.filterMap_eq_map', List.map_map]; rfl
  have hM' : Mle (mu m D (.lst ((List.range n).filterMap fun i => some (Y.d (f i))))) M := hM
  show finD D ((List.range n).filterMap _) M F
  rw [ek] at hM' ⊢
  exact fin_d _ rfl hD hM' hf
end
section
variable {pr : Program} {w : World} {K : PySem.W.Frag} {mg : Str → Option Value} {base : Heap} {f : Addr} {fd : FuncData} {ps : List Str}
theorem FnD.never {k : Nat} {d : DSp} (h : ∀ ys m F P, ¬ d ys m F P) : FnD pr w K mg base k f fd ps d :=
  ⟨fun ys m F P q => absurd q (h ys m F P), fun A outer s H args us vs Q E _ _ _ _ _ hc => by
    obtain ⟨G, m, ys, F1, P, _, _, h3, _⟩ := hc
    exact absurd h3 (h ys m F1 P)⟩
/-- a def that calls itself: at depth n it is asked of depths below n -/
theorem FnD.fam {d : Nat → DSp} {k0 c : Nat} (step : ∀ n a, k0 ≤ a → FnD pr w K mg base a f fd ps (fun ys m F P => ∃ k, n = k + 1 ∧ d k ys m F P) → FnD pr w K mg base (a + c) f fd ps (d n)) : ∀ n, FnD pr w K mg base (k0 + c * (n + 1)) f fd ps (d n)
  | 0 => (step 0 k0 (Nat.le_refl _) (FnD.never fun _ _ _ _ ⟨k, e, _⟩ => by cases e)).mono (by omega)
  | n + 1 => by
    have := step (n + 1) (k0 + c * (n + 1)) (Nat.le_add_right _ _) ((FnD.fam step n).imp fun ys m F P ⟨k, e, h⟩ => by cases e; exact h)
    exact this.mono (by rw [Nat.mul_succ c (n + 1)]; omega)
theorem GF.mono {x : Str} {j k : Nat} {d : DSp} (h : GF pr w K mg base x j f fd ps d) (l : j ≤ k) : GF pr w K mg base x k f fd ps d := ⟨h.fn.mono l, h.bn, h.gm, h.kp⟩
end
section
variable {X : Cx} {es : List Expr} {pos : Pos} {gs : XGs}
/-- a, b, .. = a list, or a tuple -/
abbrev xgLst (n : Nat) (gs : XGs) : XG := fun y r m F => ∃ ys, LsY m y ys ∧ ys.length = n ∧ gs ys r m F
theorem dg_lst {k n : Nat} (hc : X.calm = true) (h : DGs X es gs) (hn : (assignEach es X.env).length = n := by rfl) (hst : (assignEach es X.env).findIdx? (·.1) = none := by rfl) : DG X (.Tuple es k pos) (xgLst n gs) := ⟨fun {G r m σ H v y F Q} rs rh rv ⟨ys, h1, h5, h6⟩ cv => by
  obtain ⟨p, vs, rfl, s1, q⟩ := lsY_ok rh rv h1
  exact sg_of (pg_lst hc sgs_pgs hn hst) ⟨p, vs, rfl, .inl s1, by rw [q.length]; exact h5, h.run rs rh q h6 cv⟩⟩
abbrev xgTupB (n : Nat) (gs : XGs) : XG := fun y r m F => xgTup n gs y r m F ∨ xgLst n gs y r m F
theorem dg_tupB {k n : Nat} (hc : X.calm = true) (h : DGs X es gs) (hn : (assignEach es X.env).length = n := by rfl) (hst : (assignEach es X.env).findIdx? (·.1) = none := by rfl) : DG X (.Tuple es k pos) (xgTupB n gs) :=
  ⟨fun rs rh rv q cv => q.elim (fun q => (dg_tup hc h hn hst).run rs rh rv q cv) (fun q => (dg_lst hc h hn hst).run rs rh rv q cv)⟩
end
theorem cut_last {α : Type} (xs : List α) (x : α) : cutD (xs ++ [x]) none (some (-1)) = xs := by
  unfold cutD
  have h1 : HT.sIx (xs ++ [x]).length 0 none = 0 := rfl
  have h2 : HT.sIx (xs ++ [x]).length (xs ++ [x]).length (some (-1)) = xs.length := by simp [HT.sIx]; omega
  rw [h1, h2]
  simp
end Dl
/-! D23: t[::-1] of a tuple. -/
namespace Dl
open PySem PySem.Spec PyProof.Rows L2 Evl
theorem back_ends (n : Nat) : PySem.Builtin.Slice.sliceAdjust none none (-1) (n : Int) = ((n : Int) - 1, -1) := rfl
theorem back_many (n : Nat) : PySem.Builtin.Slice.slicePlaces ((n : Int) - 1) (-1) (-1) = n := by
  unfold PySem.Builtin.Slice.slicePlaces
  rw [if_neg (show ¬ ((-1 : Int) > 0) by decide)]
  split
  · rw [show (-(-1) : Int) = 1 by decide, Int.ediv_one]; omega
  · omega
theorem fm_same {α β : Type} {f g : α → Option β} : ∀ {l : List α}, (∀ x ∈ l, f x = g x) → l.filterMap f = l.filterMap g
  | [], _ => rfl
  | x :: l, h => by rw [List.filterMap_cons, List.filterMap_cons, h x (List.mem_cons_self ..), fm_same fun y hy => h y (List.mem_cons_of_mem _ hy)]
theorem back_pick (xs : Array Value) : ((List.range xs.size).filterMap fun (k : Nat) => xs[(((xs.size : Nat) : Int) - 1 + (k : Int) * -1).toNat]?).toArray = xs.toList.reverse.toArray := by
  congr 1
  have e : (List.range xs.size).filterMap (fun (k : Nat) => xs[(((xs.size : Nat) : Int) - 1 + (k : Int) * -1).toNat]?) = (List.range xs.size).filterMap fun k => xs.toList.reverse[k]? := by
    refine fm_same fun k hk => ?_
    have hk' : k < xs.size := List.mem_range.mp hk
    rw [List.getElem?_reverse (by simpa using hk'), Array.getElem?_toList]
    congr 1
    simp only [Array.length_toList]
    omega
  rw [e]
  have q := fm_all (fun x => some x) xs.toList.reverse
  rw [List.filterMap_some, List.length_reverse, Array.length_toList] at q
  exact (fm_same fun k _ => by cases xs.toList.reverse[k]? <;> rfl).trans q
section
variable {s : Shared} {E : Value → Shared → Prop} {A : Around} {prog : Program} {w : World}
theorem back_applied {c : Addr} {vs : Value} {n : Nat} {Q : Int × Int × Nat → Shared → Prop} (hs : s.heap.IsSliceOf c .none .none vs) (ps : IsPart vs (some (-1))) (h : Q ((n : Int) - 1, -1, n) s) : wpAny (model prog w) A (PySem.Builtin.Slice.sliceApplied (.ref c) (pure (n : Int))) Q E s := by
  obtain ⟨o, g1, g2, g3⟩ := hs
  unfold PySem.Builtin.Slice.sliceApplied PySem.Builtin.Slice.sliceFields
  refine wpAny_bind (wpAny_bind (wpAny_field g1 g3 (x := .none) rfl (wpAny_bind (wpAny_field g1 g3 (x := .none) rfl (wpAny_bind (wpAny_field g1 g3 (x := vs) rfl (wpAny_pure ?_)))))))
  refine wpAny_bind (HT.slicePart_ ps ?_)
  show wpAny _ _ (if ((-1 : Int) == 0) = true then _ else _) _ _ s
  rw [if_neg (by decide)]
  refine wpAny_bind (HT.slicePart_ .none (wpAny_bind (HT.slicePart_ .none (wpAny_bind (wpAny_pure ?_)))))
  show wpAny _ _ (pure (((n : Int) - 1), (-1 : Int), PySem.Builtin.Slice.slicePlaces ((n : Int) - 1) (-1) (-1))) _ _ s
  rw [back_many]
  exact wpAny_pure h
theorem back_item {t c : Addr} {items : Array Value} {vs : Value} {Q : Value → Shared → Prop} (ht : IsTup s.heap t items) (hs : s.heap.IsSliceOf c .none .none vs) (ps : IsPart vs (some (-1)))
    (h : Q (.ref s.heap.objs.size) { s with heap := s.heap.push { cls := .type "tuple", data := .seq items.toList.reverse.toArray } }) (hz : items.size ≤ sizeLine) : wpAny (model prog w) A (getItem (.ref t) (.ref c)) Q E s := by
  have hk : sizeOk (.seq items.toList.reverse.toArray) := by
    show items.toList.reverse.toArray.size ≤ sizeLine
    rw [List.size_toArray, List.length_reverse, Array.length_toList]
    exact hz
  obtain ⟨o, g1, g2, g3⟩ := id hs
  have hT : s.TypeIs (.ref c) "slice" := ⟨o, g1, g2⟩
  unfold getItem
  (try with_reducible refine wpAny_holding ?_)
  (first | refine wpAny_bind (wpAny_pure ?_) | skip)
  refine wpAny_bind (wpAny_sequenceKey (T := "tuple") ht.typeIs (by decide) ?_)
  refine wpAny_bind (wpAny_callSpecial?_slot (name := "__getitem__") ht.typeIs PyProof.Rows.slot_tuple_getitem (wpAny_call_entry PyProof.Rows.slot_tuple_getitem ht.typeIs PyProof.Rows.entry_tuple_getitem ?_ (PyProof.Rows.args_tuple_getitem _ _)))
  show wpAny _ _ (PySem.Builtin.Tuple.tupleItemsOf (.ref t) >>= _) _ _ s
  refine wpAny_bind (PyProof.Rows.tupleItemsOf_ ht (wpAny_bind (wpAny_typeOf hT ?_)))
  rw [if_pos (by decide)]
  refine wpAny_bind (back_applied hs ps ?_)
  show wpAny _ _ (if ((((items.size : Nat) : Int) - 1 == 0 && (-1 : Int) == 1) && items.size == items.size) = true then _ else _) _ _ s
  rw [if_neg (by simp), back_pick]
  first
    | exact wpAny_bind (m := PySem.Builtin.Tuple.tupleExact _) (wpAny_newObj_type (wpAny_pure ⟨_, rfl, wpAny_pure h⟩) hk)
    | exact wpAny_bind (m := PySem.Builtin.Tuple.tupleExact _) (wpAny_newObj_type (wpAny_bind (wpAny_pure (wpAny_pure ⟨_, rfl, wpAny_pure h⟩))) hk)
    | exact wpAny_bind (wpAny_bind (m := PySem.Builtin.Tuple.tupleExact _) (wpAny_newObj_type (wpAny_pure (wpAny_pure ⟨_, rfl, wpAny_pure h⟩)) hk))
    | exact wpAny_bind (wpAny_bind (m := PySem.Builtin.Tuple.tupleExact _) (wpAny_newObj_type (wpAny_pure ⟨_, rfl, wpAny_pure h⟩) hk))
end
section
variable {X : Cx} {W : WX} {e : Expr} {te : TE} {t : XE} {pos : Pos}
abbrev tBack (K : PySem.W.Frag) (te : TE) : TE := fun σ H Q => te σ H fun x H1 => ∃ a xs, x = .ref a ∧ SqT K H1 a xs ∧ ∀ p, H1 p = none → Q (.ref p) (upd H1 p (.tup xs.reverse))
theorem pe_back {k : Nat} {p1 p2 p3 : Pos} (he : PE X e te) : PE X (.Subscript e (.Slice none none (some (.UnaryOp .USub (.Constant (.int 1) k p1) p2)) p3) pos) (tBack X.K te) := by
  refine ⟨fun pins s σ H Q I h => Subscript_ (thn (he.run pins s σ H _ I h) fun v s1 ⟨x, H1, I1, r1, a, xs, ex, hx, q⟩ => ?_)⟩
  subst ex
  cases r1
  have one : PO X (some (.UnaryOp .USub (.Constant (.int 1) k p1) p2)) (tPart (tUn (rU fun j => .int (-j)) (tC (.int 1)))) := po_some (pe_un un_neg pe_int)
  refine wpAny_Slice (thn (po_none.run pins s1 σ H1 (fun o H2 => o = none ∧ H2 = H1) I1 ⟨rfl, rfl⟩) fun lo s2 ⟨l, H2, I2, pl, el, e2⟩ => ?_)
  subst el; subst e2
  refine thn (po_none.run pins s2 σ H2 (fun o H3 => o = none ∧ H3 = H2) I2 ⟨rfl, rfl⟩) fun up s3 ⟨u, H3, I3, pu, eu, e3⟩ => ?_
  subst eu; subst e3
  refine thn (one.run pins s3 σ H3 (fun o H4 => o = some (-1) ∧ H4 = H3) I3 ⟨1, rfl, -1, rfl, rfl, rfl⟩) fun sp s4 ⟨o, H4, I4, ps, eo, e4⟩ => ?_
  subst eo; subst e4
  cases pl
  cases pu
  have I5 : Inv X pins σ H4 { s4 with heap := s4.heap.push { cls := .type "slice", data := .fields #[.none, .none, sp] } } := I4.kept (t' := s4.toks) fun b ob q => Heap.get?_push_of_some _ q
  obtain ⟨its, r, ht, hz⟩ := I5.tuple hx
  have hl : its.length = xs.length := r.length.symm
  show wpAny (model X.prog X.w) X.A (subscriptTail e (.Slice none none (some (.UnaryOp .USub (.Constant (.int 1) k p1) p2)) p3) (.ref a) (.ref s4.heap.objs.size)) (EP X pins σ Q) X.xe { s4 with heap := s4.heap.push { cls := .type "slice", data := .fields #[.none, .none, sp] } }
  refine tail_any (T := "tuple") (ops := [.ref a, .ref s4.heap.objs.size]) ht.typeIs PyProof.Rows.slot_tuple_getitem.lookup ?_ (by with_unfolding_all rfl)
  refine back_item ht (Heap.IsSliceOf.new _ .none .none sp) ps ?_ (by rw [List.size_toArray, hl]; exact hz)
  have hz2 : xs.reverse.length ≤ sizeLine := by rw [List.length_reverse]; exact hz
  exact ⟨.ref _, _, I5.laid (t' := s4.toks) (o := .tup xs.reverse) (fun b ob q => Heap.get?_push_of_some _ q) (Nat.le_refl _) ⟨hz2, _, r.reverse, IsTup.new _ _⟩, rfl, q _ (I5.hok.fresh (Nat.le_refl _))⟩
theorem rvs_rev {K : PySem.W.Frag} {G : Hp} : ∀ {vs : List V} {ys : List Y}, RVs K G vs ys → RVs K G vs.reverse ys.reverse
  | _, _, .nil => .nil
  | _, _, .cons h q => by rw [List.reverse_cons, List.reverse_cons]; exact RVs.app (rvs_rev q) (.cons h .nil)
abbrev xBack (t : XE) : XE := fun r m F P => t r m (fun y m1 => ∃ ds, y = .d (.tuple ds) ∧ F (.d (.tuple ds.reverse)) m1) P
theorem de_back {k : Nat} {p1 p2 p3 : Pos} (he : DE X W e t) : DE X W (.Subscript e (.Slice none none (some (.UnaryOp .USub (.Constant (.int 1) k p1) p2)) p3) pos) (xBack t) := ⟨fun {G r m σ H F P Q} rs rh hx cv cx =>
  se_of (pe_back se_pe) (he.run rs rh hx (fun v y G1 m1 H1 e1 rh1 rv1 ⟨ds, ey, f⟩ => by
    subst ey
    cases rv1 with
    | d q =>
      cases q with
      | tup s1 q1 =>
        have hr := rvs_rev q1.rvs
        rw [← List.map_reverse] at hr
        exact ⟨_, _, rfl, ex_t rh1.sub s1, fun p hp => mkT_ok rh1 hr hp (by unfold mkT; rw [allD_map]; exact f) (cv.mono e1)⟩) cx)⟩
end
end Dl
/-! D24: tuple * 0, tuple * 1. -/
namespace Dl
open PySem PySem.Spec PyProof.Rows L2 Evl
theorem times1W (a : Addr) (items : Array Value) (n : Nat) (od : Option Addr) (slots : Array (Option Value)) (u : Tok) :
    Meets (PySem.Builtin.«tuple.__mul__» ⟨[.ref a, .int 1 u], []⟩) (fun _ R s => s.heap.get? a = some ⟨.type "tuple", od, .seq items n, slots⟩ ∧ R (.ok (.ret (Value.ref a))) s) :=
  .of_wp fun prog w A R s q => by
    obtain ⟨hq, gq, dq, tq, oq⟩ := s
    have at_a := q.1
    have ix := AutoSeq1.idx_int
    wp_walk using wpAny_loadPart' at_a
    exact ⟨_, rfl, q.2⟩
theorem times0W (a : Addr) (items : Array Value) (n : Nat) (od : Option Addr) (slots : Array (Option Value)) (u : Tok) (h0 : items.isEmpty = false) :
    Meets (PySem.Builtin.«tuple.__mul__» ⟨[.ref a, .int 0 u], []⟩) (fun _ R s => s.heap.get? a = some ⟨.type "tuple", od, .seq items n, slots⟩ ∧ R (.ok (.ret (Value.ref s.heap.objs.size))) { s with heap := s.heap.push { cls := .type "tuple", data := .seq #[] }, toks := s.toks }) :=
  .of_wp fun prog w A R s q => by
    obtain ⟨hq, gq, dq, tq, oq⟩ := s
    have at_a := q.1
    have ix := AutoSeq1.idx_int
    wp_walk using wpAny_loadPart' at_a
    exact ⟨_, rfl, q.2⟩
section
variable {X : Cx}
abbrev rTimes (K : PySem.W.Frag) : R2 := fun x y H Q => ∃ l k xs, x = .ref l ∧ y = .int k ∧ SqT K H l xs ∧ xs ≠ [] ∧ ((k = 1 ∧ Q (.ref l) H) ∨ (k = 0 ∧ ∀ p, H p = none → Q (.ref p) (upd H p (.tup []))))
theorem op_times : OpR X (binaryOp .Mult) (rTimes X.K) := by
  intro ps s τ H x y v u Q I rx ry want
  obtain ⟨l, k, xs, rfl, rfl, hT, hne, h⟩ := want
  cases rx
  obtain ⟨t, rfl⟩ := ry
  obtain ⟨its, r, ⟨⟨oc, dd, od, sl⟩, ho, hc, n, hd⟩, _⟩ := I.tuple hT
  simp only at hc hd
  subst hc; subst hd
  have some_ : its.toArray.isEmpty = false := by
    cases r with
    | nil => exact absurd rfl hne
    | cons _ _ => rfl
  rcases h with ⟨rfl, q⟩ | ⟨rfl, q⟩
  · exact wpAny_binaryOp_repeat_ref (T := "tuple") (U := "int") (by decide) ⟨_, ho, rfl⟩ (fun s' => typeIs_int s' 1 t) noFill_tuple_mul F.fills_int_mul F.slot_int_rmul repeat_tuple F.slot_int_index.lookup
      (call_meets F.slot_int_rmul (typeIs_int s 1 t) F.entry_int_rmul (F.args_int_rmul_2 _ _) (int_rmul_tuple 1 t l its.toArray n dd sl)
        ⟨ho, rfl, ⟨_, ho, rfl⟩, call_meets F.slot_tuple_mul ⟨_, ho, rfl⟩ F.entry_tuple_mul (F.args_tuple_mul_2 _ _) (times1W l its.toArray n dd sl t) ⟨ho, .ref l, H, I, rfl, q⟩⟩)
  · refine wpAny_binaryOp_repeat_ref (T := "tuple") (U := "int") (by decide) ⟨_, ho, rfl⟩ (fun s' => typeIs_int s' 0 t) noFill_tuple_mul F.fills_int_mul F.slot_int_rmul repeat_tuple F.slot_int_index.lookup
      (call_meets F.slot_int_rmul (typeIs_int s 0 t) F.entry_int_rmul (F.args_int_rmul_2 _ _) (int_rmul_tuple 0 t l its.toArray n dd sl)
        ⟨ho, rfl, ⟨_, ho, rfl⟩, call_meets F.slot_tuple_mul ⟨_, ho, rfl⟩ F.entry_tuple_mul (F.args_tuple_mul_2 _ _) (times0W l its.toArray n dd sl t some_) ⟨ho, ?_⟩⟩)
    exact ⟨.ref s.heap.objs.size, _, I.laid (t' := s.toks) (o := .tup []) (fun b ob q => Heap.get?_push_of_some _ q) (Nat.le_refl _) ⟨Nat.zero_le _, _, .nil, IsTup.new _ _⟩, rfl, q _ (I.hok.fresh (Nat.le_refl _))⟩
/-- a tuple once or not at all -/
abbrev xTimes : XR := fun y z m F => ∃ d ds k, y = .d (.tuple (d :: ds)) ∧ z = .d (.int k) ∧ ((k = 1 ∧ F (.d (.tuple (d :: ds))) m) ∨ (k = 0 ∧ F (.d (.tuple [])) m))
theorem opd_times : OpD X (binaryOp .Mult) xTimes := ⟨_, op_times, fun {G m H v w y z F Q} rh rv rw hx cv => by
  obtain ⟨d, ds, k, rfl, rfl, f⟩ := hx
  cases rw.int
  have rv' := rv
  cases rv with
  | d q =>
    cases q with
    | tup s1 q1 =>
      refine ⟨_, k, _, rfl, rfl, ex_t rh.sub s1, ?_, ?_⟩
      · cases q1 with
        | cons _ _ => exact fun z => nomatch z
      · rcases f with ⟨rfl, f⟩ | ⟨rfl, f⟩
        · exact .inl ⟨rfl, cv.at rh rv' f⟩
        · exact .inr ⟨rfl, fun p hp => mkT_ok rh (vs := []) (ys := []) .nil hp f cv⟩⟩
end
end Dl
/-! D25: list.count of data, comprehensions over a range with a test. -/
namespace Dl
open PySem PySem.Spec PyProof.Rows L2 Evl PySem.W
section
variable {X : Cx} {K : PySem.W.Frag} {G H : Hp} {m : Mu}
/-- l.count(x) of data -/
abbrev xCntD : XRM := fun y ys m F => ∃ ds d, y = .d (.list ds) ∧ ys = [.d d] ∧ PyData.plainAll ds = true ∧ d.plain = true ∧ PyData.hasDictAll ds = false ∧ d.hasDict = false ∧ d.depth ≤ 20 ∧ F (.d (.int ((ds.countP fun y => PyData.eqv y d : Nat) : Int))) m
theorem md_countD (hu : X.A.units + 64 < cLine) : MtD X "list.count" xCntD := by
  refine ⟨fun x xs H Q => ∃ l ys y ds d, x = .ref l ∧ xs = [y] ∧ SqL X.K H l ys ∧ DaAll X.K H ys ds ∧ Da X.K H y d ∧ PyData.plainAll ds = true ∧ d.plain = true ∧ PyData.hasDictAll ds = false ∧ d.hasDict = false ∧ d.depth ≤ 20 ∧ Q (.int ((ds.countP fun y => PyData.eqv y d : Nat) : Int)) H, ?_, fun {G m H v y vs ys F Q} rh rv rvs hx cv => ?_⟩
  · intro pins s σ H x xs v us Q I rx rxs ⟨l, ys, y, ds, d, ex, exs, hl, h1, h2, p1, p2, n1, n2, hd, q⟩
    subst ex exs
    cases rx
    obtain ⟨u, rfl, ru⟩ := rxs.one
    obtain ⟨its, rv, e, hlen⟩ := I.list hl
    obtain ⟨as, rs⟩ := DaAll.reads I n1 h1 rv
    obtain ⟨bs, rx⟩ := Da.reads I n2 h2 ru
    exact SeqAt.count_list_data (vs := its.toArray) e.isList (by simpa using rs) rx p1 p2 (by omega) ⟨.int _, H, I.tok _, ⟨s.toks, rfl⟩, q⟩
  · obtain ⟨ds, d, rfl, rfl, p1, p2, n1, n2, hd, f⟩ := hx
    obtain ⟨w, rfl, rw⟩ := rvs1 rvs
    obtain ⟨p, vs, rfl, s1, q1⟩ := rv.lst
    exact ⟨p, vs, w, ds, d, rfl, rfl, .inl (rd_sub rh s1), q1.mono rh.sub, rw.da.mono rh.sub, p1, p2, n1, n2, hd, cv.at rh (.d (.int _)) f⟩
end
section
variable {r : Ro} {m : Mu} {F : Y → Mu → Prop} {g : XG} {tt : XT} {te : XE} {vs : List Nat}
theorem lc_rngO (f : Nat → Option PyData) {n : Nat} (hn : n ≤ 10000)
    (ht : ∀ i M, i < n → Mle m M → ∀ (C : Y → Mu → Prop) (N : Mu → Prop), (∀ d M', f i = some d → Mle M M' → C (.d d) M') → (∀ M', f i = none → Mle M M' → N M') → g (.d (.int (0 + (i : Int)))) (wipeR r vs) M (fun r2 M2 => tt r2 M2 (fun b M3 => if b = true then te r2 M3 C P0 else N M3) P0))
    (hf : ∀ m', Mle m m' → F (.d (.list ((List.range n).filterMap f))) m') : LcZ finD (wkRange 0 n) g tt te vs r m F := by
  refine lc_go (k := wkRange 0 n) (fun i => (f i).map Y.d) hn (fun _ _ => trivial) (fun i M hi hM C N hC hN => ht i M hi hM C N (fun d M' e hM' => hC _ M' (by show (f i).map Y.d = _; rw [e]; rfl) hM') (fun M' e hM' => hN M' (by show (f i).map Y.d = _; rw [e]; rfl) hM')) (fun D M hD hM => ?_)
  have ek : (List.range n).filterMap (fun i => (f i).map Y.d) = ((List.range n).filterMap f).map Y.d := by rw [List.map_filterMap]
  have hM' : Mle (mu m D (.lst ((List.range n).filterMap fun i => (f i).map Y.d))) M := hM
  show finD D ((List.range n).filterMap _) M F
  rw [ek] at hM' ⊢
  exact fin_d _ rfl hD hM' hf
end
end Dl
/-! D26: enumerate of a tuple; t[:n]. -/
namespace Dl
open PySem PySem.Spec PyProof.Rows L2 Evl
open AutoSeq1 (wpAny_loadPart')
theorem cut_to {α : Type} (xs : List α) (n : Nat) : cutD xs none (some (n : Int)) = xs.take n := by
  unfold cutD
  rw [HT.sIx_nat, show HT.sIx xs.length 0 none = 0 from rfl, List.drop_zero, Nat.sub_zero]
  rcases Nat.le_total n xs.length with h | h
  · rw [Nat.min_eq_left h]
  · rw [Nat.min_eq_right h, List.take_of_length_le h, List.take_of_length_le (Nat.le_refl _)]
/-- the walker of a tuple, as it is made -/
abbrev tupWk (l : Addr) : Obj := { cls := .type "tuple_iterator", data := .fields #[.ref l, .int 0 0] }
/-- the walker in pairs -/
abbrev enWk (b : Addr) : Obj := { cls := .type "enumerate", data := .fields #[.none, .bool false, .ref b, rawInt 0, .none, .none] }
theorem enT_new (l : Addr) (xs : Array Value) : Meets (Builtin.«enumerate.__new__» ⟨[.type "enumerate", .ref l], []⟩) fun _ R s => s.heap.IsTuple l xs ∧ R (.ok (.ret (.ref (s.heap.push (tupWk l)).objs.size))) { s with heap := (s.heap.push (tupWk l)).push (enWk s.heap.objs.size) } := .of_wp fun prog w A R s h => by
  obtain ⟨hp, g, d, tk, os⟩ := s
  obtain ⟨⟨⟨c0, d0, e0, f0⟩, q1, q2, n, q3⟩, h⟩ := h
  have q2' : c0 = .type "tuple" := q2
  have q3' : e0 = .seq xs n := q3
  subst q2' q3'
  have hs := sub_enumerate
  have hT : Heap.IsTuple (Shared.heap ⟨hp, g, d, tk, os⟩) l xs := ⟨_, q1, rfl, n, rfl⟩
  have q1' : Heap.get? (Shared.heap ⟨hp, g, d, tk, os⟩) l = some { cls := .type "tuple", dict := d0, data := .seq xs n, slots := f0 } := q1
  wp_walk using wpAny_loadPart' q1'
  refine wpAny_stack_any fun st => wpAny_pure ?_; split
  · rename_i c _ _ _ _ _; cases (c == Value.type "enumerate")
    · wp_walk using wpAny_loadPart' q1', wpAny_pyIter_tuple hT; exact ⟨_, rfl, h⟩
    · wp_walk using wpAny_loadPart' q1', wpAny_pyIter_tuple hT; exact ⟨_, rfl, h⟩
  · wp_walk using wpAny_loadPart' q1', wpAny_pyIter_tuple hT; exact ⟨_, rfl, h⟩
section
variable {prog : Program} {w : World} {A : Around} {E : Value → Shared → Prop} {s : Shared}
theorem enT_call {l : Addr} {xs : Array Value} {Q : Value → Shared → Prop} (hL : s.heap.IsTuple l xs)
    (h : ∀ h', IsEnum h' (s.heap.objs.size + 1) s.heap.objs.size 0 .none → h'.IsTupleIter s.heap.objs.size l 0 → (∀ b o, s.heap.get? b = some o → h'.get? b = some o) → Q (.ref (s.heap.objs.size + 1)) { s with heap := h' }) : wpAny (model prog w) A (call (.type "enumerate") [.ref l]) Q E s := by
  refine callType_new F.called_enumerate (by decide) (F.typeCall_enumerate_1 _) (F.newCall_enumerate_1 _) (fun obj => F.args_object_init_2 obj _) F.entry_enumerate_new (enT_new l xs) ⟨hL, ?_⟩
  have z : (s.heap.push (tupWk l)).objs.size = s.heap.objs.size + 1 := Heap.size_push ..
  have e0 := Heap.get?_push_size (s.heap.push (tupWk l)) (o := enWk s.heap.objs.size) rfl
  rw [z] at e0
  show _ ∧ _
  rw [z]
  exact ⟨⟨_, e0, rfl⟩, h _ e0 ⟨_, Heap.get?_push_of_some _ (Heap.get?_push_size _ rfl), rfl, rfl⟩ fun b o x => Heap.get?_push_of_some _ (Heap.get?_push_of_some _ x)⟩
end
/-- the tuple at a, each item in a new pair -/
def IteT (K : PySem.W.Frag) (a : Addr) : It :=
  ⟨fun i H => ∃ (xs : List V) (x : V), SqT K H a xs ∧ xs[i]? = some x, fun i H v H' => ∃ T x, v = .ref T ∧ H T = none ∧ H' = upd H T (.tup [.int (i : Nat), x]) ∧ ∀ xs, SqT K H a xs → xs[i]? = some x, fun i H => ∃ xs : List V, SqT K H a xs ∧ xs.length ≤ i⟩
theorem turn_enT {P : Program} {w : World} {K : PySem.W.Frag} {elts : List Expr} {kk : Nat} {tpos : Pos} (a e b : Addr) :
    Turn P w K (.Tuple elts kk tpos) (IteT K a) [e, b] e (fun i h => (∃ old, IsEnum h e b ((i : Nat) : Int) old) ∧ h.IsTupleIter b a i ∧ e ≠ b ∧ a ≠ b ∧ a ≠ e) where
  mem := by simp
  obj := fun i h st c hc => by
    obtain ⟨⟨old, he⟩, ⟨o, ho, h1, h2⟩, _⟩ := st
    rcases (show c = e ∨ c = b by simpa using hc) with z | z
    · rw [z]; exact ⟨_, he, fun v q => nomatch q⟩
    · rw [z]; exact ⟨o, ho, fun v q => by rw [h2] at q; cases q⟩
  keep := fun i h h' st k => by
    obtain ⟨⟨old, he⟩, h1, h2⟩ := st
    exact ⟨⟨old, k e (by simp) _ he⟩, h1.at fun o q => k b (by simp) o q, h2⟩
  item := by
    intro X hP hw hK hc i pins s σ H E I hf st hg
    subst hP hw hK
    obtain ⟨⟨old, he⟩, h1, n1, n2, n3⟩ := st
    obtain ⟨xs, x, hq, hx⟩ := hg
    obtain ⟨its, rv, p, _⟩ := I.tuple hq
    obtain ⟨u, hu, ru⟩ := rv.get hx
    have le : e < s.heap.objs.size := Heap.lt_size he
    have lb : b < s.heap.objs.size := by obtain ⟨_, q, _⟩ := h1; exact Heap.lt_size q
    have hi : i < its.toArray.size := by
      have : i < its.length := by rw [← rv.length]; exact (List.getElem?_eq_some_iff.mp hx).1
      simpa using this
    refine wpAny_pyNext_enum_itemD (Draws.tuple (A := X.A.in1) (I.ok.hd hc) b a n2 its.toArray) he ⟨h1, p⟩ hi n1 (by simp only [List.mem_cons, List.not_mem_nil, or_false, not_or]; exact ⟨n1, Ne.symm n3⟩) fun y h' tk hy ho hs hT hz hk => ?_
    have hy' : y = u := by
      have e1 : its[i]? = some y := by simpa using hy
      rw [hu] at e1; exact (Option.some.inj e1).symm
    subst hy'
    refine ⟨_, rfl, wpAny_letOwnedTupleGo_enum (s := { s with heap := h', toks := tk + 1 }) ho fun h2 he2 sb => ?_⟩
    have hT2 : h2.get? s.heap.objs.size = some { cls := .type "tuple", data := .seq #[.int i tk, y] } := (sb.2 _ (Nat.ne_of_gt le)).trans hT
    have new : ObjOk X.prog X.w (upd H s.heap.objs.size (.tup [.int (i : Nat), x])) h2 s.heap.objs.size (.tup [.int (i : Nat), x]) := ⟨Nat.le_of_ble_eq_true rfl, [.int i tk, y], .cons ⟨_, rfl⟩ (.cons ru .nil), _, hT2, rfl, _, rfl⟩
    have I1 : Inv X pins σ (upd H s.heap.objs.size (.tup [.int (i : Nat), x])) { s with heap := h2, toks := tk + 1 } := I.turnedNew (ch := [e, b]) (fun c ob hb q => (sb.2 c (fun z => hb (by rw [z]; simp))).trans (hk c ob (fun z => hb (by rw [z]; simp)) (fun z => hb (by rw [z]; simp)) q)) hf (Nat.le_refl _) new
    refine ⟨.ref s.heap.objs.size, _, I1, rfl, ⟨_, x, rfl, I.hok.fresh (Nat.le_refl _), rfl, fun ys hy => by rw [I.tuple_inj hy hq]; exact hx⟩, ⟨⟨y, ?_⟩, hs.1.at fun o q => (sb.2 b (Ne.symm n1)).trans q, n1, n2, n3⟩, fun c hb => ?_⟩
    · rw [show ((i + 1 : Nat) : Int) = (i : Int) + 1 by omega]; exact he2
    · have lc : c < s.heap.objs.size := by
        rcases (show c = e ∨ c = b by simpa using hb) with z | z
        · exact z ▸ le
        · exact z ▸ lb
      rw [upd_ne (Nat.ne_of_lt lc)]; exact (hf c hb).1
  done := by
    intro X hP hw hK hc i pins s σ H E I hf st hg
    subst hP hw hK
    obtain ⟨⟨old, he⟩, h1, n1, n2, n3⟩ := st
    obtain ⟨xs, hq, hx⟩ := hg
    obtain ⟨its, rv, p, _⟩ := I.tuple hq
    have hn : its.toArray[i]? = none := by
      have := rv.length
      simp; omega
    have D : Draws X.prog X.w X.A.in1 b [b, a] i (fun _ _ => True) (fun j h => j = i ∧ h.IsTupleIter b a i ∧ h.IsTuple a its.toArray) := {
      live := fun _ _ st => let ⟨o, ho, _⟩ := st.2.1; ⟨o, ho⟩
      frame := fun _ _ _ st hk => ⟨st.1, st.2.1.at fun o e => hk b (by simp) o e, st.2.2.at fun o e => hk a (by simp) o e⟩
      item := fun j _ _ _ hj st _ => absurd st.1 (Nat.ne_of_lt hj)
      done := fun s2 Q2 E2 st hE => wpAny_nextOf_tuple_end (A := X.A.in1) (I.ok.hd hc) st.2.1 st.2.2 hn hE }
    obtain ⟨f0, f1, f2, f3, f4, f5⟩ := hf b (by simp)
    exact wpAny_pyNext_enum_endD D he ⟨rfl, h1, p⟩ fun h' eb => ⟨rfl, I.turned (t' := s.toks) (fun c o hb q => eb c o hb q) f0 f1 f3 f4 f5⟩
  self := fun A i s Q E st h => by
    obtain ⟨⟨_, he⟩, _⟩ := st
    exact wpAny_pyIter_enum he h
def iEnT (K : PySem.W.Frag) (ta : TA) : TI := fun σ H R => ta σ H fun vs H1 => ∃ a xs, vs = [.ref a] ∧ SqT K H1 a xs ∧ R (IteT K a) H1
theorem pi_enT {X : Cx} {e : Expr} {ta : TA} {p pos tpos : Pos} {elts : List Expr} {kk : Nat} (hg : Gl X "enumerate") (hm : X.mg "enumerate" = none) (ha : PA X [e] ta) (hs : starEach [e] X.env = [(false, eval e X.env)] := by rfl) :
    PI X (.Tuple elts kk tpos) (.Call (.Name "enumerate" p) [e] [] pos) (iEnT X.K ta) := by
  refine ⟨fun pins s σ H R I h => Call_ (ld_blt I hg hm boot_enumerate (PyProof.Rows.callWith_type1 (thn (ha.run pos pins s σ H _ I h) fun us s1 ⟨vs, H1, I1, r1, a, xs, ex, hq, q⟩ => ?_) hs rfl))⟩
  subst ex
  cases r1 with
  | cons r rr =>
    cases rr; cases r
    obtain ⟨its, rv, p', hz⟩ := I1.tuple hq
    refine enT_call p' fun h' he hit hk => wpAny_pyIter_enum he ?_
    have la : a < s1.heap.objs.size := by obtain ⟨_, q, _⟩ := p'; exact Heap.lt_size q
    refine ⟨s1.heap.objs.size + 1, [s1.heap.objs.size + 1, s1.heap.objs.size], _, _, H1, rfl, I1.kept (t' := s1.toks) hk, turn_enT a (s1.heap.objs.size + 1) s1.heap.objs.size, ⟨⟨.none, he⟩, hit, Nat.succ_ne_self _, Nat.ne_of_lt la, Nat.ne_of_lt (Nat.lt_succ_of_lt la)⟩, fun b hb => ?_, q⟩
    have hle : s1.heap.objs.size ≤ b := by
      rcases (show b = s1.heap.objs.size + 1 ∨ b = s1.heap.objs.size by simpa using hb) with z | z
      · exact z ▸ Nat.le_succ _
      · exact Nat.le_of_eq z.symm
    exact I1.fpOk hle (I1.hok.fresh hle)
section
variable {X : Cx} {W : WX} {e : Expr} {pos : Pos} {ta : XA} {K : PySem.W.Frag}
abbrev xiEnT (ta : XA) : XI := fun r m F P => ta r m (fun ys m1 => ∃ ds, ys = [.d (.tuple ds)] ∧ F (wkEnum m1 (.d (.tuple ds)) (ds.map Y.d)) m1) P
theorem di_enT {p tpos : Pos} {elts : List Expr} {kk : Nat} (hg : Gl X "enumerate") (hm : X.mg "enumerate" = none) (ha : DA X W [e] ta) (hs : starEach [e] X.env = [(false, eval e X.env)] := by rfl) :
    DI X W (.Tuple elts kk tpos) (.Call (.Name "enumerate" p) [e] [] pos) (xiEnT ta) := ⟨fun {G r m σ H F P R} rs rh hx cr cx =>
  si_of (pi_enT hg hm sa_pa hs) (ha.run rs rh hx (fun vs ys G1 m1 H1 e1 rh1 rv1 ⟨ds, q1, q3⟩ => by
    subst q1
    obtain ⟨v, rfl, r1⟩ := rvs1 rv1
    obtain ⟨a, vs, rfl, s1, q1⟩ := r1.tup
    have hk : ∀ (m : Mu) (G2 H : Hp), Ex G1 G2 → Rh X.K G2 m H → SqT X.K H a vs ∧ RVs X.K G2 vs (ds.map Y.d) := fun m G2 H e2 rh2 => ⟨ex_t (e2.trans rh2.sub) s1, RVs.mono e2 q1.rvs⟩
    refine ⟨a, vs, rfl, ex_t rh1.sub s1, cr _ _ G1 m1 H1 e1 rh1 ⟨fun i m G2 H e rh s hi => ?_, fun i m G2 H x H' e rh s hi q F Q f cv => ?_, fun m G2 H e rh s => ?_⟩ q3⟩
    · obtain ⟨h1, h2⟩ := hk m G2 H e rh
      have hi' : i < vs.length := by rw [h2.length]; exact hi
      exact ⟨vs, vs[i], h1, by simp [hi']⟩
    · obtain ⟨h1, h2⟩ := hk m G2 H e rh
      obtain ⟨T, x0, rfl, hT, rfl, q2⟩ := q
      obtain ⟨z, hz, f⟩ := f
      obtain ⟨w, hw, rw⟩ := RVs.get h2 hz
      have e3 := q2 vs h1
      rw [hw] at e3; cases e3
      exact mkT_ok rh (.cons (.d (.int _)) (.cons rw .nil)) hT f cv
    · obtain ⟨h1, h2⟩ := hk m G2 H e rh
      exact ⟨vs, h1, by rw [h2.length]; exact Nat.le_refl _⟩) cx)⟩
end
end Dl
/-! D27: tuple += tuple; (a, *t); d.get(k, x); k in d; defs with *args. -/
namespace Dl
open PySem PySem.Spec PyProof.Rows L2 Evl
/-! ### t += u -/
theorem noI_tup : typeLookup (.type "tuple") (dunderI "add") = pure none := by rw [typeLookup_type, builtinLookup_eq_fast]; kernel_rfl
section
variable {prog : Program} {w : World} {A : Around} {E : Value → Shared → Prop} {s : Shared}
theorem icat {B : Value → Value → Prop} {a b : Addr} {S : PySem.Spec} {Q : Value → Shared → Prop} (ha : s.TypeIs (.ref a) "tuple") (hb : s.TypeIs (.ref b) "tuple") (g : Meets (Builtin.«tuple.__add__» ⟨[.ref a, .ref b], []⟩) S) (h : S A (wants Q E) s) : wpAny (model prog w) A (inplaceOp .Add (.ref a) (.ref b)) Q E s :=
  wpAny_inplaceOp_concat ha hb noI_tup noFill_tuple_add seq_tuple_add (call_meets PySem.F.slot_tuple_add ha PySem.F.entry_tuple_add (PySem.F.args_tuple_add_2 _ _) g h)
end
section
variable {X : Cx} {W : WX} {e : Expr} {es : List Expr} {pos : Pos} {t te : XE} {ta : XA} {K : PySem.W.Frag} {G H : Hp} {m : Mu}
theorem iop_catT : PIp X .Add (rCatA X.K) := by
  intro pins s σ H x y v u Q I rx ry h
  obtain ⟨a, b, xs, ys, rfl, rfl, ha, hb, hz, q0, q1, q2⟩ := h
  cases rx
  cases ry
  obtain ⟨its, r1, p1, _⟩ := I.tuple ha
  obtain ⟨its2, r2, p2, _⟩ := I.tuple hb
  obtain ⟨⟨c1, d1, e1, f1⟩, o1, k1, n1, z1⟩ := id p1
  obtain ⟨⟨c2, d2, e2, f2⟩, o2, k2, n2, z2⟩ := id p2
  simp only at k1 z1 k2 z2
  subst k1 z1 k2 z2
  by_cases hx : its = []
  · subst hx
    cases r1
    exact icat (B := fun _ _ => True) ⟨_, o1, rfl⟩ ⟨_, o2, rfl⟩ (tuple_addW0 a b ([] : List Value).toArray its2.toArray n1 n2 d1 d2 f1 f2 (by simp)) ⟨o1, o2, .ref b, H, I, rfl, q0 rfl⟩
  · have hx' : xs ≠ [] := fun z => hx (r1.nil_iff.mpr z)
    by_cases hy : its2 = []
    · exact icat (B := fun _ _ => True) ⟨_, o1, rfl⟩ ⟨_, o2, rfl⟩ (tuple_addW1 a b its.toArray its2.toArray n1 n2 d1 d2 f1 f2 (by simpa using hx) (by simp [hy])) ⟨o1, o2, .ref a, H, I, rfl, q1 hx' (r2.nil_iff.mp hy)⟩
    · refine icat (B := fun _ _ => True) ⟨_, o1, rfl⟩ ⟨_, o2, rfl⟩ (tuple_addW2 a b its.toArray its2.toArray n1 n2 d1 d2 f1 f2 (by simpa using hx) (by simpa using hy) (by rw [List.size_toArray, List.size_toArray, ← r1.length, ← r2.length]; exact hz)) ⟨o1, o2, ?_⟩
      have ee : its.toArray ++ its2.toArray = (its ++ its2).toArray := by simp
      rw [ee]
      refine ⟨.ref s.heap.objs.size, _, I.laid (t' := s.toks) (o := .tup (xs ++ ys)) (fun b ob q => Heap.get?_push_of_some _ q) (Nat.le_refl _) ⟨by rw [List.length_append]; exact hz, _, r1.append r2, IsTup.new _ _⟩, rfl, q2 hx' (fun z => hy (r2.nil_iff.mpr z)) _ (I.hok.fresh (Nat.le_refl _))⟩
abbrev xAugT (i : Nat) (t : XE) : XS := fun D r m => ∃ ds, r[i]? = some (some (.d (.tuple ds))) ∧ t r m (fun y m1 => ∃ es, y = .d (.tuple es) ∧ ds.length + es.length ≤ 10000 ∧ D.nx (r.set i (some (.d (.tuple (ds ++ es))))) m1) (D.at r)
theorem ds_augT {i : Nat} {x : Str} {pos' : Pos} (hN : X.N.Nodup) (hi : X.N[i]? = some x) (hx : Loc X.env.scope x) (he : DE X W e t) (hf : X.fn x = true ∨ X.env.scope.names.lookup x = some .local := by first | exact .inl rfl | exact .inr rfl | assumption) :
    DS X W (.AugAssign (.Name x pos') .Add e pos) (xAugT i t) := ⟨fun {G r m σ H D E} rs rh ⟨ds, q1, q2⟩ f => by
  obtain ⟨w, e1, rv⟩ := rs.get q1
  refine ss_of (ps_aug hN hi hx se_pe iop_catT hf) ⟨w, e1, he.run rs rh q2 (fun v y G1 m1 H1 e2 rh1 rv1 ⟨es, q3, hz, q4⟩ => ?_) (f.cx rs)⟩
  subst q3
  obtain ⟨p, vs, rfl, s1, q5⟩ := (rv.mono e2).tup
  obtain ⟨p2, vs2, rfl, s2, q6⟩ := rv1.tup
  refine ⟨p, p2, vs, vs2, rfl, rfl, ex_t rh1.sub s1, ex_t rh1.sub s2, by rw [q5.length, q6.length]; exact Nat.le_trans hz szl, fun e => ?_, fun e3 e4 => ?_, fun e3 e4 q hq => ?_⟩
  · subst e; cases q5
    exact f.nx _ _ G1 m1 H1 e2 ((rs.mono e2).set rv1 i) rh1 q4
  · subst e4; cases q6
    rw [List.append_nil] at q4
    exact f.nx _ _ G1 m1 H1 e2 ((rs.mono e2).set (rv.mono e2) i) rh1 q4
  · obtain ⟨e5, r5⟩ := rh1.data (o := .tup (vs ++ vs2)) hq
    exact f.nx _ _ _ m1 _ (e2.trans e5) ((rs.mono (e2.trans e5)).set (.d (.tup (.inl (.inl upd_same)) ((q5.app q6).mono e5))) i) r5 q4⟩
/-! ### *e among the items of a display -/
abbrev xStar (te : XE) (t : XA) : XA := fun r m F P => te r m (fun y m1 => ∃ zs, SqY m1 y zs ∧ t r m1 (fun ys m2 => F (zs ++ ys) m2) P) P
theorem da_star {p : Pos} (he : DE X W e te) (hr : DA X W es ta) (hs : starEach (.Starred e p :: es) X.env = (true, eval e X.env) :: starEach es X.env := by rfl) : DA X W (.Starred e p :: es) (xStar te ta) :=
  ⟨fun {G r m σ H F P Q} rs rh hx cv cx => sa_of (StX.pa_star se_pe sa_pa hs) (he.run rs rh hx (fun v y G1 m1 H1 e1 rh1 rv1 ⟨zs, hz, h1⟩ => by
    obtain ⟨p, vs, rfl, s1, q1⟩ := sqY_ok rh1 rv1 hz
    exact ⟨p, vs, rfl, s1.symm, hr.run (rs.mono e1) rh1 h1 (fun us ys G2 m2 H2 e2 rh2 rv2 h2 => cv (vs ++ us) (zs ++ ys) G2 m2 H2 (e1.trans e2) rh2 ((RVs.mono e2 q1).app rv2) h2) (cx.mono e1)⟩) cx)⟩
/-! ### dicts that are data -/
theorem dic_no {x : Str} : ∀ {kvs : List (Key × V)} {ks ds : List PyData}, DaAll K H (kvs.map fun p => kV p.1) ks → DaAll K H (kvs.map fun p => p.2) ds → dGet (ks.zip ds) x = none → valV kvs (Sum.inr x) = none
  | [], _, _, h1, h2, e => rfl
  | (k, v) :: kvs, _, _, h1, h2, e => by
    cases h1 with
    | cons h1 t1 =>
      cases h2 with
      | cons h2 t2 =>
        cases k with
        | inl i =>
          cases h1
          have := dic_no t1 t2 (x := x) (by simpa [dGet] using e)
          unfold valV at this ⊢
          rw [List.find?_cons_of_neg (by simp)]
          exact this
        | inr z =>
          cases h1
          by_cases hz : z = x
          · subst hz
            simp [dGet] at e
          · have := dic_no t1 t2 (x := x) (by simpa [dGet, hz] using e)
            unfold valV at this ⊢
            rw [List.find?_cons_of_neg (by simpa using hz)]
            exact this
theorem dic_dg {v : V} {es : List (PyData × PyData)} {x : Str} (rh : Rh K G m H) (rv : RV K G v (.d (.dict es))) : ∃ a o, v = .ref a ∧ DGet H a (.str x) o ∧ (match o, dGet es x with | some u, some d => Da K G u d | none, none => True | _, _ => False) := by
  cases rv with
  | d q =>
    cases q with
    | dic r k1 k2 eq =>
      subst eq
      refine ⟨_, _, rfl, .inl ⟨_, Sum.inr x, rd_sub rh r, rfl, rfl⟩, ?_⟩
      cases e : dGet _ x with
      | none => rw [dic_no k1 k2 e]; trivial
      | some d =>
        obtain ⟨u, g1, g2⟩ := dic_get k1 k2 e
        rw [g1]; exact g2
/-- d.get(k, x) -/
abbrev xGet2 (td te tf : XE) : XE := fun r m F P => td r m (fun y m1 => ∃ es, y = .d (.dict es) ∧ te r m1 (fun z m2 => tf r m2 (fun v m3 => ∃ x d, z = .d (.str x) ∧ v = .d d ∧ F (.d ((dGet es x).getD d)) m3) P) P) P
theorem de_get2 {o e f : Expr} {apos cpos : Pos} {td te tf : XE} (hu : X.A.units + 64 < cLine) (ho : DE X W o td) (he : DE X W e te) (hf : DE X W f tf) (m2 : M2 X o "get" apos e f cpos) : DE X W (.Call (.Attribute o "get" apos) [e, f] [] cpos) (xGet2 td te tf) := ⟨fun {G r m σ H F P Q} rs rh hx cv cx =>
  se_of (pe_dget2 (by omega) se_pe se_pe se_pe m2) (ho.run rs rh hx (fun v y G1 m1 H1 e1 rh1 rv1 ⟨es, q1, q2⟩ => by
    subst q1
    have isd : ∃ a, v = .ref a ∧ IsD H1 a := by
      cases rv1 with
      | d q => cases q with | dic r0 k1 k2 eq => exact ⟨_, rfl, .inl ⟨_, rd_sub rh1 r0⟩⟩
    obtain ⟨a, rfl, hd⟩ := isd
    refine ⟨a, rfl, hd, he.run (rs.mono e1) rh1 q2 (fun v2 z G2 m2 H2 e2 rh2 rv2 q3 => hf.run (rs.mono (e1.trans e2)) rh2 q3 (fun v3 z3 G3 m3 H3 e3 rh3 rv3 ⟨x, d, q4, q5, q6⟩ => ?_) (cx.mono (e1.trans e2))) (cx.mono e1)⟩
    subst q4 q5
    obtain ⟨a', o, ea, g, eo⟩ := dic_dg (x := x) rh3 ((rv1.mono e2).mono e3)
    cases ea
    have rk := rv2.mono e3
    cases rk.str
    refine ⟨o, g, ?_⟩
    have cv' := cv.mono ((e1.trans e2).trans e3)
    cases o with
    | none =>
      cases e2' : dGet es x with
      | none => rw [e2'] at q6; exact cv'.at rh3 rv3 q6
      | some d => rw [e2'] at eo; exact eo.elim
    | some u =>
      cases e2' : dGet es x with
      | none => rw [e2'] at eo; exact eo.elim
      | some d => rw [e2'] at eo q6; exact cv'.at rh3 (.d eo) q6) cx)⟩
end
section
variable {X : Cx}
/-- x in d, d a dict that is data -/
abbrev xInDd (neg : Bool) : XR := fun y z m F => ∃ es x, y = .d (.str x) ∧ z = .d (.dict es) ∧ F (.d (.bool (if neg then !(dGet es x).isSome else (dGet es x).isSome))) m
theorem dic_some {K : PySem.W.Frag} {G : Hp} {o : Option V} {q : Option PyData} (e : match o, q with | some u, some d => Da K G u d | none, none => True | _, _ => False) : o.isSome = q.isSome := by
  cases o <;> cases q <;> first | rfl | exact e.elim
theorem opd_inDd (hu : X.A.units + 64 < cLine) : OpD X (compareOp .In) (xInDd false) := by
  refine ⟨fun x y H Q => ∃ a o, y = .ref a ∧ DGet H a x o ∧ Q (.bl o.isSome) H, ?_, fun {G m H v w y z F Q} rh rv rw hx cv => ?_⟩
  · intro pins s σ H x y v u Q I rx ry ⟨a, o, ey, g, q⟩
    subst ey
    cases ry
    exact L2.d_in (by omega) I g rx fun s' I' => ⟨.bl o.isSome, H, I', rfl, q⟩
  · obtain ⟨es, x, rfl, rfl, f⟩ := hx
    obtain ⟨a, o, rfl, g, e⟩ := dic_dg (x := x) rh rw
    cases rv.str
    exact ⟨a, o, rfl, g, by rw [dic_some e]; exact cv.at rh (.d (.bl _)) f⟩
theorem opd_notinDd (hu : X.A.units + 64 < cLine) : OpD X (compareOp .NotIn) (xInDd true) := by
  refine ⟨fun x y H Q => ∃ a o, y = .ref a ∧ DGet H a x o ∧ Q (.bl (!o.isSome)) H, ?_, fun {G m H v w y z F Q} rh rv rw hx cv => ?_⟩
  · intro pins s σ H x y v u Q I rx ry ⟨a, o, ey, g, q⟩
    subst ey
    cases ry
    exact L2.d_notIn (by omega) I g rx fun s' I' => ⟨.bl (!o.isSome), H, I', rfl, q⟩
  · obtain ⟨es, x, rfl, rfl, f⟩ := hx
    obtain ⟨a, o, rfl, g, e⟩ := dic_dg (x := x) rh rw
    cases rv.str
    exact ⟨a, o, rfl, g, by rw [dic_some e]; exact cv.at rh (.d (.bl _)) f⟩
end
/-! ### a comprehension within a comprehension -/
abbrev sEnv (sc : Scope) : Env := { scope := sc, locals := 0, globals := 0, cells := [] }
theorem blkOk_r {N : List Str} {o scope : Scope} {env : Env} {own : List (Str × Nat)} (sc0 : Scope) (e : relabel o env = relabel o (sEnv sc0)) (h : blkC N (relabel o (sEnv sc0)) scope own = true) : BlkOk N (relabel o env) scope own := by
  rw [e]; exact blkOk_by h
/-! ### def f(*v) -/
section
variable {pr : Program} {w : World} {K : PySem.W.Frag} {mg : Str → Option Value} {base : Heap}
/-- the def at f keeps the promise d, however many arguments there are -/
structure FnV (pr : Program) (w : World) (K : PySem.W.Frag) (mg : Str → Option Value) (base : Heap) (k : Nat) (f : Addr) (d : DSp) : Prop where
  run : ∀ (A : Around) (outer : List Env) (s : Shared) (H : Hp) (us : List Value) (vs : List V) (Q : VK) (E : XK), A.guards = some [] → Room k A → Env0 pr w K mg base A outer s H → Vals vs us → cz K d vs H Q E → codeAny (model pr w) A (.call (.ref f) ⟨us, []⟩) (CR (L2.CX pr w) outer pr w H s Q E) s
theorem FnV.mono {j k : Nat} {f : Addr} {d : DSp} (F : FnV pr w K mg base j f d) (h : j ≤ k) : FnV pr w K mg base k f d := ⟨fun A outer s H us vs Q E hg hr => F.run A outer s H us vs Q E hg (hr.mono h)⟩
theorem Fun.dokV {x qual pv : Str} {st : Stmt} {f : Addr} {fd : FuncData} {N : List Str} {k : Nat} {d : DSp} (F : Fun K x qual st f fd) (S : FnScope N [pv] (defScope st)) (t : XS)
    (hbind : ∀ (kV doc pm : Value) (an : Option Addr) (cdv ct : Value) (us : List Value), bindArgs (PySem.W.fnOf x qual (defArgs st) (defBody st) (defScope st) .none kV doc pm an cdv ct) ⟨us, []⟩ = (newTuple us >>= fun t => pure [(pv, t)]))
    (hb : ∀ (cdv : Value) (A : Around) (outer : List Env) (s : Shared) (H : Hp) (E : XK), Bx (cxD pr w K mg base N qual (defScope st) f cdv A outer s H E) (WE1 E) k → PassesOwn (model pr w) (cxD pr w K mg base N qual (defScope st) f cdv A outer s H E).A (cxD pr w K mg base N qual (defScope st) f cdv A outer s H E).env (cxD pr w K mg base N qual (defScope st) f cdv A outer s H E).xe →
      DSs (cxD pr w K mg base N qual (defScope st) f cdv A outer s H E) (WE1 E) (defBody st) t)
    (vc : ∀ ys m F P, d ys m F P → ys.length ≤ 10000 ∧ mkT ys m (fun y m' => t { nx := fun _ m => F (.d .none) m, rt := F, ex := fun c fs _ m => P c fs m } (startY N [y]) m')) : FnV pr w K mg base (k + 1) f d := by
  obtain ⟨oc, od, kV, doc, pm, an, cdv, ct, osl, rfl, lk, hcd⟩ := F.ex
  refine ⟨fun A outer s H us vs Q E hg hr e0 r hsp => ?_⟩
  obtain ⟨G, m, ys, Fy, P, rh, rv, hd, cv, cx⟩ := hsp
  obtain ⟨hl, hvc⟩ := vc ys m Fy P hd
  have lv : vs.length ≤ sizeLine := by rw [rv.length]; exact Nat.le_trans hl szl
  have lu : us.length ≤ sizeLine := by rw [← r.length]; exact lv
  have fresh : H s.heap.objs.size = none := e0.hok.fresh (Nat.le_refl _)
  refine StX.run_bnd lk hcd S hr e0 (G := fun xs H2 => ∃ p, H p = none ∧ xs = [V.ref p] ∧ H2 = upd H p (.tup vs)) (fun A' Ex' Q' h => ?_) fun s2 H2 xs ⟨p, hp, ex, eH⟩ hr' => ?_
  · rw [hbind]
    refine wpAny_bind (wpAny_newTuple (wpAny_pure ?_) lu)
    have new : ObjOk pr w (upd H s.heap.objs.size (.tup vs)) (s.heap.push ({ cls := .type "tuple", data := .seq us.toArray } : Obj)) s.heap.objs.size (.tup vs) := ⟨lv, us, r, _, Heap.get?_push_size _ rfl, rfl, _, rfl⟩
    have un := StX.un_laid (fs := frs outer) (s := s) (o := ({ cls := .type "tuple", data := .seq us.toArray } : Obj)) (u := .tup vs) fresh
    exact h _ _ [V.ref s.heap.objs.size] [Value.ref s.heap.objs.size] (StX.env0_laid e0 new) un rfl (fun e s' => StX.cxUp outer s H _ _ E e s' un (fun b o q => Heap.get?_push_of_some _ q) rfl) (.cons rfl .nil) rfl ⟨_, fresh, rfl, rfl⟩
  · subst ex eH
    obtain ⟨G', m', y, e', rh', rv', hf⟩ := mkT_ok (Q := fun v H2 => ∃ G' m' y, Ex G G' ∧ Rh K G' m' H2 ∧ RV K G' v y ∧ t { nx := fun _ m => Fy (.d .none) m, rt := Fy, ex := fun c fs _ m => P c fs m } (startY N [y]) m') rh rv hp hvc (fun v y G' m' H' e rh rv f => ⟨G', m', y, e, rh, rv, f⟩)
    have hbx : Bx (cxD pr w K mg base N qual (defScope st) f cdv A outer s2 (upd H p (.tup vs)) E) (WE1 E) k := ⟨hr', hg, takes_of rfl rfl rfl rfl⟩
    refine ⟨_, sss_pss, (hb cdv A outer s2 _ E hbx (passes_of rfl)).run (E := { nx := fun _ H' => Q .non H', rt := Q }) (start_rs (N := N) (.cons rv' .nil)) rh' hf ?_⟩
    exact ⟨fun σ r G1 m1 H1 e1 _ rh1 q => cv .non _ G1 m1 H1 (e'.trans e1) rh1 (.d .non) q, fun v y G1 m1 H1 e1 rh1 rv1 q => cv v y G1 m1 H1 (e'.trans e1) rh1 rv1 q, fun _ _ _ _ _ _ _ _ q => q.elim, fun _ _ _ _ _ _ _ _ q => q.elim,
      fun c d fs σ r G1 m1 H1 e1 _ rh1 xf q => cx c d fs G1 m1 H1 (e'.trans e1) rh1 xf q⟩
structure GV (pr : Program) (w : World) (K : PySem.W.Frag) (mg : Str → Option Value) (base : Heap) (x : Str) (k : Nat) (f : Addr) (d : DSp) : Prop where
  fn : FnV pr w K mg base k f d
  gm : mg x = some (.ref f)
  kp : PySem.W.keepIn K (.ref f) = true
end
section
variable {X : Cx} {W : WX} {k j : Nat} {f : Addr} {d : DSp} {x : Str} {p pos : Pos} {e : Expr} {es : List Expr} {t : XA}
abbrev xCallV (d : DSp) (t : XA) : XE := fun r m F P => t r m (fun ys m1 => d ys m1 F P) P
theorem de_gv (F : GV X.prog X.w X.K X.mg X.base x k f d) (hr : Room j X.A) (hgd : X.A.guards = some []) (tk : Takes X W) (hg : Gl X x) (ha : DA X W (e :: es) t) (hk : k ≤ j := by decide) (hdb : (x == ("__debug__" : Str)) = false := by decide) (he : starEach (e :: es) X.env = (false, eval e X.env) :: starEach es X.env := by rfl)
    (hpl : (backTo pos (starEach es X.env)).any (·.1) = false := by rfl) : DE X W (.Call (.Name x p) (e :: es) [] pos) (xCallV d t) := ⟨fun {G r m σ H F' P Q} rs rh hx cv cx => fun pins s I => by
  refine wpAny_Call_Name_kw (ld_glob I hg F.gm ?_ hdb)
  have ha' := ha.run (Q := fun vs H1 => cz X.K d vs H1 Q (WEx W σ)) rs rh hx (fun vs ys G1 m1 H1 e1 rh1 rv1 q1 => ⟨G1, m1, ys, F', P, rh1, rv1, q1, cv.mono e1, cx.mono e1⟩) cx
  refine PySem.W.callWith_K (h₀ := X.base) I.ok.mod.kin F.kp (thn (ha' pos pins s I) fun us s1 ⟨vs, H1, I1, r1, q⟩ => ⟨I1.kIn, ?_⟩) he hpl
  refine wpAny_call (codeAny_mono (F.fn.run X.A X.stack s1 H1 us vs Q (WEx W σ) hgd (hr.mono hk) I1.env0 r1 q) fun z s' hq => ?_)
  match z, hq with
  | .error e, hq => exact passAt tk σ pins H1 s1 e s' I1 hq
  | .ok (.ret u), hq => exact I1.after hq
  | .ok .next, hq => exact False.elim hq
  | .ok .brk, hq => exact False.elim hq
  | .ok .cont, hq => exact False.elim hq⟩
end
end Dl
/-! D28: tuple * n for every n from 0 on; l.extend(tuple). -/
namespace Dl
open PySem PySem.Spec PyProof.Rows L2 Evl
theorem timesEW (a : Addr) (items : Array Value) (n : Nat) (od : Option Addr) (slots : Array (Option Value)) (x : Int) (u : Tok) (c0 : (decide (x < -(2 ^ 63)) || decide (x ≥ 2 ^ 63)) = false) (h0 : items.isEmpty = true) :
    Meets (PySem.Builtin.«tuple.__mul__» ⟨[.ref a, .int x u], []⟩) (fun _ R s => s.heap.get? a = some ⟨.type "tuple", od, .seq items n, slots⟩ ∧ R (.ok (.ret (Value.ref a))) s) :=
  .of_wp fun prog w A R s q => by
    obtain ⟨hq, gq, dq, tq, oq⟩ := s
    have at_a := q.1
    have ix := AutoSeq1.idx_int
    have c1 : (items.isEmpty || x == 1) = true := by rw [h0]; rfl
    wp_walk using wpAny_loadPart' at_a
    refine wpAny_ite_false (decide_eq_false (by rw [c0]; exact Bool.false_ne_true)) ?_
    wp_walk using wpAny_loadPart' at_a
    exact ⟨_, rfl, q.2⟩
section
variable {X : Cx}
abbrev rTimeE (K : PySem.W.Frag) : R2 := fun x y H Q => ∃ l k, x = .ref l ∧ y = .int k ∧ SqT K H l [] ∧ 0 ≤ k ∧ k ≤ 1000 ∧ Q (.ref l) H
theorem op_timeE : OpR X (binaryOp .Mult) (rTimeE X.K) := by
  intro ps s τ H x y v u Q I rx ry want
  obtain ⟨l, k, rfl, rfl, hT, k0, k1, q⟩ := want
  cases rx
  obtain ⟨t, rfl⟩ := ry
  obtain ⟨its, r, ⟨⟨oc, dd, od, sl⟩, ho, hc, n, hd⟩, _⟩ := I.tuple hT
  simp only at hc hd
  subst hc; subst hd
  cases r
  have c0 : (decide (k < -(2 ^ 63)) || decide (k ≥ 2 ^ 63)) = false := by
    rw [decide_eq_false (by omega), decide_eq_false (by omega)]; rfl
  exact wpAny_binaryOp_repeat_ref (T := "tuple") (U := "int") (by decide) ⟨_, ho, rfl⟩ (fun s' => typeIs_int s' k t) noFill_tuple_mul F.fills_int_mul F.slot_int_rmul repeat_tuple F.slot_int_index.lookup
    (call_meets F.slot_int_rmul (typeIs_int s k t) F.entry_int_rmul (F.args_int_rmul_2 _ _) (int_rmul_tuple k t l _ n dd sl)
      ⟨ho, rfl, ⟨_, ho, rfl⟩, call_meets F.slot_tuple_mul ⟨_, ho, rfl⟩ F.entry_tuple_mul (F.args_tuple_mul_2 _ _) (timesEW l _ n dd sl k t c0 rfl) ⟨ho, .ref l, H, I, rfl, q⟩⟩)
abbrev xRepT : XR := fun y z m F => ∃ ds k, y = .d (.tuple ds) ∧ z = .d (.int k) ∧ 0 ≤ k ∧ k ≤ 1000 ∧ ds.length ≤ 1000 ∧ F (.d (.tuple (List.replicate k.toNat ds).flatten)) m
theorem opd_repT : OpD X (binaryOp .Mult) xRepT := by
  refine ⟨fun x y H Q => rTimeE X.K x y H Q ∨ rTimes X.K x y H Q ∨ rRepT X.K x y H Q, fun ps s τ H x y v u Q I rx ry h => ?_, fun {G m H v w y z F Q} rh rv rw hx cv => ?_⟩
  · rcases h with h | h | h
    · exact op_timeE ps s τ H x y v u Q I rx ry h
    · exact op_times ps s τ H x y v u Q I rx ry h
    · exact op_repT ps s τ H x y v u Q I rx ry h
  · obtain ⟨ds, k, rfl, rfl, k0, k1, hl, f⟩ := hx
    cases rw.int
    have rv' := rv
    obtain ⟨p, vs, rfl, s1, q1⟩ := rv.tup
    cases ds with
    | nil =>
      cases q1
      refine .inl ⟨p, k, rfl, rfl, ex_t rh.sub s1, k0, k1, cv.at rh rv' ?_⟩
      have e : (List.replicate k.toNat ([] : List PyData)).flatten = [] := by simp
      rwa [e] at f
    | cons d ds =>
      have hne : vs ≠ [] := by cases q1; exact fun z => nomatch z
      by_cases h1 : k = 1
      · subst h1
        refine .inr (.inl ⟨p, 1, vs, rfl, rfl, ex_t rh.sub s1, hne, .inl ⟨rfl, cv.at rh rv' ?_⟩⟩)
        have e : (List.replicate (1 : Int).toNat (d :: ds)).flatten = d :: ds := by simp
        rwa [e] at f
      by_cases h0 : k = 0
      · subst h0
        refine .inr (.inl ⟨p, 0, vs, rfl, rfl, ex_t rh.sub s1, hne, .inr ⟨rfl, fun q hq => mkT_ok rh (vs := []) (ys := []) .nil hq ?_ cv⟩⟩)
        exact f
      · refine .inr (.inr ⟨p, k, vs, rfl, rfl, ex_t rh.sub s1, hne, by omega, k1, by rw [q1.length]; exact hl, fun q hq => ?_⟩)
        have rp : ∀ n : Nat, DaAll X.K G (List.replicate n vs).flatten (List.replicate n (d :: ds)).flatten := fun n => by
          induction n with
          | zero => exact .nil
          | succ n ih => rw [List.replicate_succ, List.replicate_succ, List.flatten_cons, List.flatten_cons]; exact q1.app ih
        obtain ⟨e3, r3⟩ := rh.data (o := .tup (List.replicate k.toNat vs).flatten) hq
        exact cv _ _ _ m _ e3 r3 (.d (.tup (.inl (.inl upd_same)) ((rp k.toNat).mono e3))) f
end
open AutoSeq1 (wpAny_loadPart')
theorem extTW (l : Addr) (xs : Array Value) (n : Nat) (b : Addr) (ys : Array Value) (n2 : Nat) (dd : Option Addr) (sl : Array (Option Value)) (g0 : ¬(!xs.isEmpty && Builtin.List.listTooLong (xs.size + ys.size)) = true) (g1 : xs.size ≤ sizeLine) (g2 : (xs ++ ys).size ≤ sizeLine + 1) :
    Meets (Builtin.«list.extend» ⟨[.ref l, .ref b], []⟩) (fun _ R s => s.heap.get? l = some { cls := .type "list", dict := none, data := .seq xs n, slots := #[] } ∧ s.heap.get? b = some { cls := .type "tuple", dict := dd, data := .seq ys n2, slots := sl } ∧ R (.ok (.ret Value.none)) { s with heap := s.heap.update l (Obj.mapSeq fun z => z ++ ys), toks := s.toks }) := .of_wp fun prog w A R s h => by
  obtain ⟨hp, g, d, tk, os⟩ := s
  obtain ⟨q1, q2, h⟩ := h
  have k1 := AutoSeq1.idx_int
  have k2 := AutoSeq1.sub_tuple_tuple
  have k3 := AutoSeq1.sub_list_list
  have k4 := AutoSeq1.sub_tuple_list
  have k5 := AutoSeq1.sub_list_tuple
  wp_walk using (wpAny_updateSeq q1 rfl (hz := g1) (_hz' := g2)), wpAny_loadPart' q1, wpAny_loadPart' q2
  exact ⟨_, rfl, h⟩
section
variable {X : Cx}
/-- l.extend(t), t a tuple that is data -/
abbrev xExtT : XRM := fun y ys m F => ∃ p zs ds, y = .l p ∧ ys = [.d (.tuple ds)] ∧ m p = some (.lst zs) ∧ zs.length + ds.length ≤ 10000 ∧ F (.d .none) (mu m p (.lst (zs ++ ds.map Y.d)))
theorem md_extendT : MtD X "list.extend" xExtT := by
  refine ⟨fun x vs H Q => ∃ l b xs zs, x = .ref l ∧ vs = [.ref b] ∧ H l = some (.lst xs) ∧ SqT X.K H b zs ∧ xs.length + zs.length ≤ sizeLine ∧ Q .non (upd H l (.lst (xs ++ zs))), ?_, fun {G m H v y vs ys F Q} rh rv rvs hx cv => ?_⟩
  · intro pins s σ H x vs v us Q I rx rv ⟨l, b, xs, zs, ex, ev, hH, hB, hz, q⟩
    subst ex ev
    cases rx
    obtain ⟨u, rfl, ru⟩ := rv.one
    cases ru
    obtain ⟨z, its, n, r, hl, e⟩ := I.lstM hH
    obtain ⟨its2, r2, ⟨⟨oc, dd, od, sl⟩, ho, hc, n2, hd⟩, _⟩ := I.tuple hB
    simp only at hc hd
    subst hc; subst hd
    have l2 := r2.length
    have hsz : its.toArray.size + its2.toArray.size ≤ sizeLine := by rw [List.size_toArray, List.size_toArray]; omega
    have g0 : ¬ (!its.toArray.isEmpty && Builtin.List.listTooLong (its.toArray.size + its2.toArray.size)) = true := by rw [notLongL hsz, Bool.and_false]; exact Bool.false_ne_true
    refine call_meets PySem.F.slot_list_extend ⟨_, e, rfl⟩ PySem.F.entry_list_extend (PySem.F.args_list_extend_2 _ _) (extTW l its.toArray n b its2.toArray n2 dd sl g0 (by rw [List.size_toArray]; omega) (by rw [Array.size_append]; omega)) ⟨e, ho, ?_⟩
    exact ⟨.non, _, I.lset (its' := its ++ its2) hH e (by simp) (r.append r2) (by rw [List.length_append]; omega), rfl, q⟩
  · obtain ⟨p, zs, ds, rfl, rfl, hm, hz, f⟩ := hx
    obtain ⟨w, rfl, rw⟩ := rvs1 rvs
    cases rv.loc
    obtain ⟨ws, e3, q⟩ := rh.lst hm
    obtain ⟨p2, vs2, rfl, s2, q2⟩ := rw.tup
    exact ⟨p, p2, ws, vs2, rfl, rfl, e3, ex_t rh.sub s2, by rw [q.length, q2.length]; exact Nat.le_trans hz szl, cv .non _ G _ _ (Ex.refl G) (rh.write hm (.lst (q.app q2.rvs))) (.d .non) f⟩
end
end Dl
/-! D29: a text in a text. -/
namespace Dl
open PySem PySem.Spec PyProof.Rows L2 Evl
section
variable {X : Cx}
abbrev xInS (neg : Bool) : XR := fun y z m F => ∃ a b, y = .d (.str a) ∧ z = .d (.str b) ∧ F (.d (.bool (if neg then !(!(Builtin.Str.occurrences b a 0 b.length 1).isEmpty) else !(Builtin.Str.occurrences b a 0 b.length 1).isEmpty))) m
theorem opd_inS : OpD X (compareOp .In) (xInS false) := ⟨_, op_in_str, fun {G m H v w y z F Q} rh rv rw hx cv => by
  obtain ⟨a, b, rfl, rfl, f⟩ := hx
  cases rv.str
  cases rw.str
  exact ⟨a, b, rfl, rfl, cv.at rh (.d (.bl _)) f⟩⟩
theorem opd_notinS : OpD X (compareOp .NotIn) (xInS true) := ⟨_, op_notin_str, fun {G m H v w y z F Q} rh rv rw hx cv => by
  obtain ⟨a, b, rfl, rfl, f⟩ := hx
  cases rv.str
  cases rw.str
  exact ⟨a, b, rfl, rfl, cv.at rh (.d (.bl _)) f⟩⟩
end
end Dl
/-! D30: a lambda handed to a def; what that def does with it; defs called in an except suite; the law's end with tables. -/
namespace Dl
open PySem PySem.Spec PyProof.Rows L2 Evl

/-! ### l.index(x) of data -/
section
variable {X : Cx}
abbrev xIdxD : XRM := fun y ys m F => ∃ ds d j z, y = .d (.list ds) ∧ ys = [.d d] ∧ SeqAt.shaped (.list ds) = true ∧ SeqAt.shaped d = true ∧ ds[j]? = some z ∧ PyData.eqv z d = true ∧ (∀ (n : Nat) (z' : PyData), n < j → ds[n]? = some z' → PyData.eqv z' d = false) ∧ F (.d (.int ((j : Nat) : Int))) m
theorem md_indexD (hu : X.A.units + 65 < cLine) : MtD X "list.index" xIdxD := ⟨_, mt_indexD hu, fun {G m H v y vs ys F Q} rh rv rvs hx cv => by
  obtain ⟨ds, d, j, z, rfl, rfl, s1, s2, e1, e2, e3, f⟩ := hx
  obtain ⟨w, rfl, rw⟩ := rvs1 rvs
  obtain ⟨p, vs, rfl, r1, q1⟩ := rv.lst
  have h1 : Da X.K H (.ref p) (.list ds) := (Da.lst r1 q1).mono rh.sub
  exact ⟨p, w, d, ds, j, z, rfl, rfl, h1.dp (SeqAt.canLay_of_shaped s1), (rw.da.mono rh.sub).dp (SeqAt.canLay_of_shaped s2), s1, s2, e1, e2, e3, cv.at rh (.d (.int _)) f⟩⟩
end

/-! ### a thunk: what is promised of its call -/
abbrev XTh := Mu → (Y → Mu → Prop) → XP → Prop
/-- the context of the def at g, called from X in the state s -/
abbrev cxG (X : Cx) (N : List Str) (q : Str) (sc : Scope) (g : Addr) (cd : Value) (s : Shared) (H : Hp) (E : XK) : Cx :=
  cxOf (L2.CX X.prog X.w) X.prog X.w X.K X.mg X.base N q sc g cd X.A X.stack s H E
/-- the context of a lambda's body, written in X, called from Z -/
abbrev cxL (X Z : Cx) (s : Shared) (H : Hp) (E : XK) (scope : Scope) (f c : Addr) : Cx := LamX.lamCx X Z.A Z.stack s H E scope f c
theorem bx_lam {X Z : Cx} {s : Shared} {H : Hp} {E : XK} {scope : Scope} {f c : Addr} {k : Nat} (hr : Room (k + 1) Z.A) (hg : Z.A.guards = some []) : Bx (cxL X Z s H E scope f c) (WE1 E) k :=
  ⟨hr.deeper _, hg, takes_of rfl rfl rfl rfl⟩
abbrev lamQ (X : Cx) : Str := X.env.qual ++ "<lambda>"
section
variable {X : Cx} {W : WX}
theorem pe_teof {e : Expr} {te : XE} (h : DE X W e te) : PE X e (TEof X.K W te) := ⟨fun pins s σ H Q I ⟨G, r, m, F, P, rs, rh, q, cv, cx⟩ => h.run rs rh q cv cx pins s I⟩
/-- the lambda is called in the def that got it -/
theorem pe_thunk {pins : List (Addr × Obj)} {σ : L2.St} {H : Hp} {s : Shared} {N : List Str} {q : Str} {sc : Scope} {g f c : Addr} {cd pm ctv : Value} {Eg E : XK} {params : Arguments} {body : Expr} {scope : Scope} {k i : Nat} {a : Str}
    {pn : List (Addr × Obj)} {xe : Value → Shared → Prop} {tb : TE} {p1 p2 : Pos} (I : Inv X pins σ H s) (L : LamX.LamS X.env.scope scope)
    (ho : s.heap.get? f = some (PySem.W.kla_obj "<lambda>" (lamQ X) params body scope (cloFrom X.env.cells scope.names []) pm c ctv)) (hn : H f = none) (hs : f ∉ frs X.stack)
    (hbd : bindArgs (PySem.W.kla_fn "<lambda>" (lamQ X) params body scope (cloFrom X.env.cells scope.names []) pm (.ref c) ctv) ⟨[], []⟩ = pure [])
    (tk : Takes ((cxG X N q sc g cd s H Eg).tr pn xe) W) (hW : ∀ cls d σ' H', E cls d H' → W cls d σ' H') (hr : Room (k + 1) (cxG X N q sc g cd s H Eg).A)
    (hb : ∀ (s1 : Shared) (H1 : Hp), PE (cxL X (cxG X N q sc g cd s H Eg) s1 H1 E scope f c) body tb)
    (hN : N[i]? = some a) (hv : Vis sc a) (hd : (a == ("__debug__" : Str)) = false) (hcd : (a == ("__classdict__" : Str)) = false) :
    PE ((cxG X N q sc g cd s H Eg).tr pn xe) (.Call (.Name a p1) [] [] p2) (fun τ Hz Q => τ[i]? = some (some (.ref f)) ∧ Hz c = some (LamX.CodeO c (lamQ X)) ∧ tb σ Hz Q) := by
  constructor
  intro pz z τ Hz Q J ⟨hs1, hc, ht⟩
  have look := (pe_var (X := (cxG X N q sc g cd s H Eg).tr pn xe) (pos := p1) (i := i) hN hv hd hcd).run pz z τ Hz (fun v H1 => v = .ref f ∧ H1 = Hz) J ⟨.ref f, hs1, rfl, rfl⟩
  refine wpAny_Call_Name_kw (thn look fun u z1 ⟨v, H1, J1, r1, ev, eH⟩ => ?_)
  cases ev
  cases eH
  cases r1
  have still := J1.base.keep f _ ho hn hs (fun y => nomatch y)
  refine PySem.W.callWith_F0 ⟨_, _, _, _, still⟩ ?_
  obtain ⟨⟨oc, vs, t, e1, e2, e3⟩, _, _⟩ := J1.hok c _ hc
  have un : Un (frs X.stack) [] H Hz s.heap z1.heap := J1.base
  have go : codeAny (model X.prog X.w) (cxG X N q sc g cd s H Eg).A (.call (.ref f) ⟨[], []⟩) (CR (L2.CX X.prog X.w) (cxG X N q sc g cd s H Eg).stack X.prog X.w Hz z1 Q E) z1 := by
    refine PySem.W.kla_callFunE hr.depth still rfl L.co L.gen rfl ⟨c, oc, vs, t, rfl, e1, e2, e3⟩ ?_
    rw [hbd]
    refine wpAny_pure (wpAny_newFunctionEnv (fun y hy => (L.own y hy).2) (fun y hy => nomatch hy) (fun h1 ns sb => ⟨J1.nolimit.fresh _ sb, ?_⟩) L.kind)
    have kept : ∀ b o, z1.heap.get? b = some o → h1.get? b = some o := fun b o e => sb.extBut b o (Nat.ne_of_lt (Heap.lt_size e)) (Heap.get?_push_of_some _ e)
    have J2 : Inv (cxL X (cxG X N q sc g cd s H Eg) z1 Hz E scope f c) [] σ Hz { z1 with heap := h1, toks := z1.toks + 0 } := LamX.lam_start2 I L J1.env0 hr.hd un ns kept
    refine PySem.W.kla_codeExpr (wpAny_mono ((hb z1 Hz).run [] _ _ Hz Q J2 ht) (fun v s' hq => ?_) fun e s' hq => hq)
    obtain ⟨w', H', J', rv, q'⟩ := hq
    exact ⟨w', H', J'.os, J'.bare, J'.base, J'.hok, rv, q'⟩
  have pass : Passes (L2.CX X.prog X.w) ((cxG X N q sc g cd s H Eg).tr pn xe) E := passes_call tk hW
  refine wpAny_call (codeAny_mono go fun r s' hq => ?_)
  match r, hq with
  | .error e, hq => exact pass pz τ Hz z1 e s' J1 hq
  | .ok (.ret u), hq => exact J1.after hq
  | .ok .next, hq => exact False.elim hq
  | .ok .brk, hq => exact False.elim hq
  | .ok .cont, hq => exact False.elim hq
end
/-- the def at g, which gets a thunk: what it makes of the thunk's promise -/
def GivesD (X : Cx) (N : List Str) (q : Str) (sc : Scope) (g : Addr) (cd : Value) (bg : List Stmt) (a : Str) (k : Nat) (dd : XTh → XTh) : Prop :=
  ∀ (f : Addr) (s : Shared) (H G : Hp) (m : Mu) (F : Y → Mu → Prop) (P : XP) (Q : VK) (E : XK) (tl : XTh), X.A.guards = some [] → Room k (cxG X N q sc g cd s H E).A →
    (∀ (W : WX) (pn : List (Addr × Obj)) (xe : Value → Shared → Prop) (Ec : XK) (p1 p2 : Pos), Takes ((cxG X N q sc g cd s H E).tr pn xe) W → (∀ cls d σ' H', Ec cls d H' → W cls d σ' H') →
      PE ((cxG X N q sc g cd s H E).tr pn xe) (.Call (.Name a p1) [] [] p2) (fun τ Hz Qz => τ[0]? = some (some (.ref f)) ∧ ∃ G1 m1 F1 P1, Ex G G1 ∧ Rh X.K G1 m1 Hz ∧ tl m1 F1 P1 ∧ CvE X.K G1 F1 Qz ∧ CvX X.K G1 P1 Ec)) →
    Rh X.K G m H → dd tl m F P → CvE X.K G F Q → CvX X.K G P E →
    ∃ t, PSs (cxG X N q sc g cd s H E) bg t ∧ t { nx := fun _ H' => Q .non H', rt := Q } (L2.start N [.ref f]) H
structure LF (pr : Program) (w : World) (K : PySem.W.Frag) (mg : Str → Option Value) (base : Heap) (x : Str) (k : Nat) (g : Addr) (N : List Str) (st : Stmt) (fd : FuncData) (a : Str) (dd : XTh → XTh) : Prop where
  fn : L2.Fun K x x st g fd
  sc : FnScope N [a] (defScope st)
  bd : Binds K fd [a] []
  gm : mg x = some (.ref g)
  kp : PySem.W.keepIn K (.ref g) = true
  n0 : N[0]? = some a
  vi : Vis (defScope st) a
  gv : ∀ (X : Cx) (cd : Value), X.prog = pr → X.w = w → X.K = K → X.mg = mg → X.base = base → GivesD X N x (defScope st) g cd (defBody st) a k dd
section
variable {X : Cx} {W : WX} {x a : Str} {k j kk : Nat} {g c Pt : Addr} {N : List Str} {st : Stmt} {fd : FuncData} {dd : XTh → XTh} {params : Arguments} {body : Expr} {scope : Scope} {lpos p pos : Pos} {tx : XE} {qn : Str}
/-- g(lambda: body) -/
abbrev xLam (Pt : Addr) (qn : Str) (dd : XTh → XTh) (tx : XE) : XE := fun r m F P => ∃ T, m Pt = some (.tab T) ∧ (Pt, qn) ∈ T ∧ (∀ p ∈ T, p.1 = Pt → p.2 = qn) ∧ dd (tx r) m F P
theorem de_lam (F : LF X.prog X.w X.K X.mg X.base x k g N st fd a dd) (hr : Room j X.A) (hgd : X.A.guards = some []) (tk : Takes X W) (hg : Gl X x) (TB : LamX.TabB X.base X.mg c Pt) (hcode : X.env.code = .ref c)
    (L : LamX.LamS X.env.scope scope) (hb : ∀ (Z : Cx) (s : Shared) (H : Hp) (E : XK) (f c : Addr), Bx (cxL X Z s H E scope f c) (WE1 E) kk → DE (cxL X Z s H E scope f c) (WE1 E) body tx)
    (hq : lamQ X = qn := by rfl) (h1 : kk + 2 ≤ j := by omega) (h2 : k ≤ kk + 1 := by omega) (hdef : defaultsOf params X.env = ([], []) := by rfl)
    (hbind : ∀ (q : Str) (cl : List (Str × Addr)) (pm cv ctv : Value), bindArgs (PySem.W.kla_fn "<lambda>" q params body scope cl pm cv ctv) ⟨[], []⟩ = pure [] := by intros; rfl)
    (hdb : (x == ("__debug__" : Str)) = false := by decide) (hd : (a == ("__debug__" : Str)) = false := by decide) (hcd : (a == ("__classdict__" : Str)) = false := by decide) :
    DE X W (.Call (.Name x p) [.Lambda params body scope lpos] [] pos) (xLam Pt qn dd tx) := ⟨fun {G r m σ H F' P Q} rs rh hx cv cx => fun pins s I => by
  subst hq
  obtain ⟨T, hP, hmT, hu, hx⟩ := hx
  have hT : LamX.Tabs T H := fun p hp => by
    obtain ⟨_, b2, _⟩ := rh.tb Pt T hP
    obtain ⟨_, ps, q1, q2, q3⟩ := b2 p hp
    exact ⟨ps, q1, q2, fun pos cv hc => by obtain ⟨c, e1, e2⟩ := q3 pos cv hc; exact ⟨c, e1, rh.sub _ _ e2⟩⟩
  refine wpAny_Call_Name_kw (ld_glob I hg F.gm ?_ hdb)
  refine PySem.W.callWith_K (h₀ := X.base) I.ok.mod.kin F.kp ?_ (by rfl) (by rfl)
  show wpAny _ _ (spliced ((false, eval (.Lambda params body scope lpos) X.env) :: backTo pos (starEach [] X.env))) _ _ s
  refine Calls.spliced_cons (LamX.lam_make2 I TB hcode hmT hu hT hdef (L.has I.ok) fun f c' pm' ctv H1 s' I1 eN T1 hf hfn hfr hco => ?_)
  refine Calls.spliced_nil ⟨I1.kIn, ?_⟩
  obtain ⟨G1, e1, rh1, hc1⟩ := rh.lam hP eN T1
  obtain ⟨oc, od, kV, doc, pm, an, cdv, ct, osl, rfl, lk, hcdv⟩ := F.fn.ex
  have hr1 : Room (kk + 1 + 1) X.A := hr.mono h1
  have rc : codeAny (model X.prog X.w) X.A (.call (.ref g) ⟨[.ref f], []⟩) (CR (L2.CX X.prog X.w) X.stack X.prog X.w H1 s' Q (WEx W σ)) s' := by
    refine LamX.run_ofS (N := N) (ps := [a]) (us := [.ref f]) (vs := [.ref f]) lk hcdv F.sc hr1 I1.env0 (F.bd s' [.ref f] I1.kIn rfl) (.cons rfl .nil) rfl fun hr2 => ?_
    refine F.gv X cdv rfl rfl rfl rfl rfl f s' H1 G1 m F' P Q (WEx W σ) (tx r) hgd (hr2.mono h2) (fun W' pn xe Ec p1 p2 tk' hW => ?_) rh1 hx (cv.mono e1) (cx.mono e1)
    have bd := pe_thunk (p1 := p1) (p2 := p2) (k := kk) (i := 0) (tb := TEof X.K (WE1 Ec) tx) I1 L hf hfn hfr (hbind _ _ _ _ _) tk' hW hr2 (fun s1 H2 => pe_teof (hb _ s1 H2 Ec f c' (bx_lam hr2 hgd))) F.n0 F.vi hd hcd
    exact ⟨fun pz z τ Hz Qz J ⟨y1, G2, m2, F2, P2, y2, y3, y4, y5, y6⟩ => bd.run pz z τ Hz Qz J ⟨y1, y3.sub _ _ (y2 _ _ (hc1 _ _ hco)), G2, r, m2, F2, P2, rs.mono (e1.trans y2), y3, y4, y5, y6⟩⟩
  refine wpAny_call (codeAny_mono rc fun y s2 hq => ?_)
  match y, hq with
  | .error e, hq => exact passAt tk σ pins H1 s' e s2 I1 hq
  | .ok (.ret u), hq => exact I1.after hq
  | .ok .next, hq => exact False.elim hq
  | .ok .brk, hq => exact False.elim hq
  | .ok .cont, hq => exact False.elim hq⟩
end
end Dl
/-! D31: defs called in an except suite with the exception; isinstance of it; try: return [call()] except E as e: return f(e). -/
namespace Dl
open PySem PySem.Spec PyProof.Rows L2 Evl

theorem RoomH.u64 {k : Nat} {A : Around} (r : L2H.RoomH k A) : A.units + 64 < cLine := by have := r.un; omega
theorem RoomH.u65 {k : Nat} {A : Around} (r : L2H.RoomH k A) : A.units + 65 < cLine := by have := r.un; omega
theorem Room.u65 {k : Nat} {A : Around} (r : Room k A) : A.units + 65 < cLine := by have := r.un; omega
/-- what a def promises that is called with the exception that is handled: by its class -/
abbrev DEx := Value → Mu → (Y → Mu → Prop) → Prop
abbrev Eno : XK := fun _ _ _ => False
structure FnE (pr : Program) (w : World) (K : PySem.W.Frag) (mg : Str → Option Value) (base : Heap) (k : Nat) (f : Addr) (fd : FuncData) (p : Str) (de : DEx) : Prop where
  run : ∀ (A : Around) (outer : List Env) (s : Shared) (H : Hp) (args : Args) (Q : VK) (a : Addr) (oe : Obj) (cls : Value), A.guards = some [] → L2H.RoomH k A → L2H.PinOk outer H s (a, oe) → Zc cls none oe → (∃ vs, oe.data = .fields vs) →
    Env0 pr w K mg base A outer s H → BindsTo s fd args [(p, .ref a)] → (∃ G m F, Rh K G m H ∧ de cls m F ∧ CvE K G F Q) → codeAny (model pr w) A (.call (.ref f) args) (CR (L2.CX pr w) outer pr w H s Q Eno) s
theorem FnE.mono {pr : Program} {w : World} {K : PySem.W.Frag} {mg : Str → Option Value} {base : Heap} {j k : Nat} {f : Addr} {fd : FuncData} {p : Str} {de : DEx} (F : FnE pr w K mg base j f fd p de) (h : j ≤ k) : FnE pr w K mg base k f fd p de :=
  ⟨fun A outer s H args Q a oe cls hg hr => F.run A outer s H args Q a oe cls hg (hr.mono h)⟩
/-- the context of such a def's body -/
abbrev cxE (pr : Program) (w : World) (K : PySem.W.Frag) (mg : Str → Option Value) (base : Heap) (N : List Str) (qual : Str) (sc : Scope) (f : Addr) (cd : Value) (A : Around) (outer : List Env) (s : Shared) (H : Hp) (q : Addr × Obj) : Cx :=
  L2H.cxH (L2.CX pr w) pr w K mg base N qual sc f cd A outer s H Eno q
structure BxE (X : Cx) (k : Nat) (a : Addr) (cls : Value) : Prop where
  hr : L2H.RoomH k X.A
  gd : X.A.guards = some []
  tk : Takes X (WE1 Eno)
  pin : ∃ oe, (a, oe) ∈ X.pn ∧ Zc cls none oe ∧ ∃ vs, oe.data = .fields vs
section
variable {pr : Program} {w : World} {K : PySem.W.Frag} {mg : Str → Option Value} {base : Heap}
theorem Fun.dokE {x qual p : Str} {st : Stmt} {f : Addr} {fd : FuncData} {N : List Str} {k : Nat} {de : DEx} (F : L2.Fun K x qual st f fd) (S : FnScope N [p] (defScope st)) (t : Addr → Value → XS)
    (hb : ∀ (a : Addr) (cls cdv : Value) (A : Around) (outer : List Env) (s : Shared) (H : Hp) (oe : Obj), BxE (cxE pr w K mg base N qual (defScope st) f cdv A outer s H (a, oe)) k a cls → DSs (cxE pr w K mg base N qual (defScope st) f cdv A outer s H (a, oe)) (WE1 Eno) (defBody st) (t a cls))
    (vc : ∀ a cls m F, de cls m F → t a cls { nx := fun _ m => F (.d .none) m, rt := F } (startY N [.v (.ref a)]) m) : FnE pr w K mg base (k + 1) f fd p de := by
  obtain ⟨oc, od, kV, doc, pm, an, cdv, ct, osl, rfl, lk, hcd⟩ := F.ex
  refine ⟨fun A outer s H args Q a oe cls hg hr hpin hz hf e0 hbd ⟨G, m, Fy, rh, hd, cv⟩ => ?_⟩
  have KX : K.In s.heap := e0.mod.kin.keeps fun b o e => (e0.bs b o e).1
  have hkind : ∀ y ∈ [(p, Value.ref a)], (defScope st).names.lookup y.1 = some .local ∨ ((defScope st).names.lookup y.1 = some .cell ∧ ((cellsFrom (s.heap.objs.size + 1) (defScope st).names []).lookup y.1).isSome = true) := by
    intro y hy
    rw [List.mem_singleton.mp hy]
    exact (S.par p List.mem_cons_self).imp id fun q => ⟨q, PySem.W.cellsFrom_some _ _ _ (.inl q)⟩
  refine codeAny_call_function hr.depth (KX _ _ lk) rfl S.co S.gen rfl (PySem.W.codeRec_of KX hcd) (hbd _ _ _ _ ?_)
  refine wpAny_newFunctionEnv_cells S.kind hkind fun env he s1 x => ?_
  subst he
  refine ⟨(e0.mod.nolimit.keeps fun b o e => (e0.bs b o e).1).keeps x.toInCall.keep, codeAny_func ?_⟩
  have bx : BxE (cxE pr w K mg base N qual (defScope st) f cdv A outer s H (a, oe)) k a cls := ⟨hr.deeper _, hg, takes_of rfl rfl rfl rfl, oe, List.mem_cons_self, hz, hf⟩
  have rv : RVs K G [V.ref a] [.v (.ref a)] := .cons (.v _) .nil
  have I := L2H.inv_startH (CX := L2.CX pr w) (E := Eno) (vs := [V.ref a]) (us := [.ref a]) (ps := [p]) S hpin e0 rfl (.cons rfl .nil) x
  have go := (hb a cls cdv A outer s H oe bx).run (E := { nx := fun _ H' => Q .non H', rt := Q }) (start_rs (N := N) rv) rh (vc a cls m Fy hd)
    ⟨fun σ r G' m' H' e1 _ rh1 q => cv .non _ G' m' H' e1 rh1 (.d .non) q, fun v y G' m' H' e1 rh1 rv1 q => cv v y G' m' H' e1 rh1 rv1 q, fun _ _ _ _ _ _ _ _ q => q.elim, fun _ _ _ _ _ _ _ _ q => q.elim, fun _ _ _ _ _ _ _ _ _ _ _ _ q => q.elim⟩ [] s1 I
  have fin : ∀ {s' : Shared} {σ' : L2.St} {H' : Hp} {v : V} {u : Value}, Inv (cxE pr w K mg base N qual (defScope st) f cdv A outer s H (a, oe)) [] σ' H' s' → RelV v u → Q v H' → CE outer pr w H s Q u s' :=
    fun J rv q => ⟨_, _, J.os, J.bare, J.base, J.hok, rv, q⟩
  refine wpAny_mono go (fun fl s' hs => ?_) fun e s' hs => hs
  match fl, hs with
  | .ret u, ⟨v, σ', H', J, rv, q⟩ => exact fin J rv q
  | .next, ⟨σ', H', J, q⟩ => exact fin (v := V.non) (u := Value.none) J rfl q
  | .brk, ⟨_, _, _, q⟩ => exact False.elim q
  | .cont, ⟨_, _, _, q⟩ => exact False.elim q
end
theorem boot_ValueE : bootBuiltins "ValueError" = some (.type "ValueError") := by decide +kernel
/-! ### isinstance(e, C), e the exception that is handled -/
abbrev xIsE (K : PySem.W.Frag) (a : Addr) (cls : Value) : XRC := fun ys m F => ∃ D c cv b, cls = .ref D ∧ ExcC K D ∧ ys = [.v (.ref a), .v c] ∧ ((∃ C, c = .ref C ∧ cv = .ref C) ∨ ∃ T, c = .ty T ∧ cv = .type T) ∧ PySem.W.kitOne K cls cv = some b ∧ F (.d (.bool b)) m
theorem cd_isE {X : Cx} {k : Nat} {a : Addr} {cls : Value} (B : BxE X k a cls) : CallD X (.builtin "isinstance") (xIsE X.K a cls) := by
  obtain ⟨oe, hp, hz, vs0, hv0⟩ := B.pin
  refine ⟨fun xs H Q => ∃ (D : Addr) (c : V) (cv : Value) (b : Bool), cls = .ref D ∧ ExcC X.K D ∧ xs = [.ref a, c] ∧ (∀ u, RelV c u → u = cv) ∧ PySem.W.kitOne X.K cls cv = some b ∧ Q (.bl b) H, ?_, fun {G m H vs ys F Q} rh rv hx cv => ?_⟩
  · intro pins s σ H xs us Q I r ⟨D, c, cv, b, ecls, C, ex, hcv, e, q⟩
    subst ex ecls
    obtain ⟨u0, us', rfl, r0, rr⟩ : ∃ u0 us', us = u0 :: us' ∧ RelV (.ref a) u0 ∧ Vals [c] us' := by
      cases r with
      | cons h t => exact ⟨_, _, rfl, h, t⟩
    obtain ⟨u1, rfl, r1⟩ := rr.one
    cases r0
    cases hcv _ r1
    have hget := (I.pin (a, oe) (List.mem_append_left _ hp)).1
    have J : PySem.W.InstAt s.heap a oe D none := by
      obtain ⟨oc, od, oda, osl⟩ := oe
      obtain ⟨h1, h2⟩ := hz
      dsimp only at h1 h2 hv0
      subst h1 h2 hv0
      exact ⟨hget, rfl, rfl, trivial⟩
    exact PySem.W.kia_one (PySem.W.handS_kitx_exc C.hg C.hk C.hs C.hd C.ha C.hn C.ht C.hm) I.kIn J e (fun z => nomatch z) fun tk => ⟨.bl b, H, I.kept (t' := tk) fun _ _ z => z, rfl, q⟩
  · obtain ⟨D, c, cv', b, ecls, C, rfl, hc, e, f⟩ := hx
    obtain ⟨v, w, rfl, r1, r2⟩ := rvs2 rv
    cases r1
    cases r2
    refine ⟨D, c, cv', b, ecls, C, rfl, fun u hu => ?_, e, cv.at rh (.d (.bl b)) f⟩
    rcases hc with ⟨C', rfl, rfl⟩ | ⟨T, rfl, rfl⟩ <;> exact hu
theorem kisE (K : PySem.W.Frag) {X : Cx} {k : Nat} {a : Addr} {cls : Value} (B : BxE X k a cls) (hK : X.K = K := by rfl) : CallD X (.builtin "isinstance") (xIsE K a cls) := by
  subst hK; exact cd_isE B
/-! ### its call from the suite -/
section
variable {X : Cx} {x p : Str} {k : Nat} {f a : Addr} {fd : FuncData} {de : DEx} {cls : Value} {oe : Obj} {arg : Expr} {t : TA} {q pos : Pos}
theorem pe_hot (F : FnE X.prog X.w X.K X.mg X.base k f fd p de) (hr : L2H.RoomH k X.A) (hgd : X.A.guards = some []) (hp : (a, oe) ∈ X.pn) (hz : Zc cls none oe) (hf : ∃ vs, oe.data = .fields vs) (hg : Gl X x) (hm : X.mg x = some (.ref f))
    (hk : PySem.W.keepIn X.K (.ref f) = true) (hb : Binds X.K fd [p] []) (tk : Takes X W0) (ha : PA X [arg] t) (hdb : (x == ("__debug__" : Str)) = false := by decide) (he : starEach [arg] X.env = (false, eval arg X.env) :: starEach [] X.env := by rfl) :
    PE X (.Call (.Name x q) [arg] [] pos) (fun σ H Q => t σ H fun vs H1 => vs = [.ref a] ∧ ∃ G m F', Rh X.K G m H1 ∧ de cls m F' ∧ CvE X.K G F' Q) := by
  refine ⟨fun pins s σ H Q I h => ?_⟩
  refine wpAny_Call_Name_kw (ld_glob I hg hm ?_ hdb)
  refine PySem.W.callWith_K (h₀ := X.base) I.ok.mod.kin hk (thn (ha.run pos pins s σ H _ I h) fun us s1 ⟨vs, H1, I1, r, e, q⟩ => ⟨I1.kIn, ?_⟩) he rfl
  subst e
  obtain ⟨u, rfl, ru⟩ := r.one
  cases ru
  have P1 := I1.pin (a, oe) (List.mem_append_left _ hp)
  have hpin : L2H.PinOk X.stack H1 s1 (a, oe) := ⟨P1.1, P1.2.1, fun hm => (List.mem_cons.mp (I1.stkSub a hm)).elim P1.2.2.1 P1.2.2.2.1, P1.2.2.2.2⟩
  have b := hb s1 [.ref a] I1.kIn rfl
  refine wpAny_call (codeAny_mono (F.run X.A X.stack s1 H1 ⟨[.ref a], []⟩ Q a oe cls hgd hr hpin hz hf I1.env0 b q) fun y s' hq => ?_)
  match y, hq with
  | .error e, hq => exact passAt (W := W0) tk σ pins H1 s1 e s' I1 hq
  | .ok (.ret u), hq => exact I1.after hq
  | .ok .next, hq => exact False.elim hq
  | .ok .brk, hq => exact False.elim hq
  | .ok .cont, hq => exact False.elim hq
end
/-! ### try: return [call()] / except E as n: return word(n) -/
abbrev d_said (K : PySem.W.Frag) (CS : Addr) (de : DEx) : XTh → XTh := fun tl m F P => tl m (fun y m1 => ∃ d, y = .d d ∧ F (.d (.list [d])) m1) (fun cls fs m1 => fs = [] ∧ PySem.W.exmOne K cls (.ref CS) = some true ∧ de cls m1 F)
theorem said_gives {pr : Program} {w : World} {K : PySem.W.Frag} {mg : Str → Option Value} {base : Heap} {N : List Str} {x a e n wf pw : Str} {sc : Scope} {g CS fw : Addr} {fdw : FuncData} {k : Nat} {cd : Value} {i : Nat} {de : DEx}
    {p1 p2 p3 p4 p5 p6 p7 p8 p9 p10 p11 : Pos} (S : FnScope N [a] sc) (hge : sc.names.lookup e = some .globalImplicit) (hme : mg e = some (.ref CS)) (hde : (e == ("__debug__" : Str)) = false) (hi : N[i]? = some n) (hil : i < N.length) (hi0 : i ≠ 0) (hn : sc.names.lookup n = some .local) (hnd : (n == ("__debug__" : Str)) = false) (hnc : (n == ("__classdict__" : Str)) = false)
    (h0 : ∀ f : Addr, (L2.start N [V.ref f])[0]? = some (some (V.ref f))) (FW : FnE pr w K mg base k fw fdw pw de) (hgw : sc.names.lookup wf = some .globalImplicit) (hmw : mg wf = some (.ref fw)) (hkw : PySem.W.keepIn K (.ref fw) = true) (hbw : Binds K fdw [pw] []) (hdw : (wf == ("__debug__" : Str)) = false)
    (X : Cx) (x1 : X.prog = pr) (x2 : X.w = w) (x3 : X.K = K) (x4 : X.mg = mg) (x5 : X.base = base) :
    GivesD X N x sc g cd [.Try [.Return (some (.List [.Call (.Name a p1) [] [] p2] p3)) p4] [.ExceptHandler (some (.Name e p5)) (some n) [.Return (some (.Call (.Name wf p6) [.Name n p7] [] p8)) p9] p10] [] [] p11] a k (d_said K CS de) := by
  subst x1 x2 x3 x4 x5
  intro f s H G m F P Q E tl hgd hr act rh hx cv cx
  have hnm : Names (cxG X N x sc g cd s H E) e (.ref CS) := ⟨hge, hde, .inl hme⟩
  refine ⟨_, pss_one (ps_try_as (X := cxG X N x sc g cd s H E) (i := i) (Wout := WE1 E)
    (tb := fun W' D τ Hz => ∃ Ec : XK, (∀ cls d σ' H', Ec cls d H' → W' cls d σ' H') ∧ τ[0]? = some (some (.ref f)) ∧ ∃ G1 m1 F1 P1, Ex G G1 ∧ Rh X.K G1 m1 Hz ∧ tl m1 F1 P1 ∧ CvE X.K G1 F1 (fun v H1 => ∀ p, H1 p = none → D.rt (.ref p) (upd H1 p (.lst [v]))) ∧ CvX X.K G1 P1 Ec)
    (ts := fun b cls d D τ Hz => (∃ τ0 : L2.St, τ = τ0.set i (some (.ref b))) ∧ d = none ∧ ∃ G1 m1 F1, Rh X.K G1 m1 Hz ∧ de cls m1 F1 ∧ CvE X.K G1 F1 D.rt)
    rfl rfl S.nd hi hn hnm (takes_of rfl rfl rfl rfl) (fun W' pn xe tk' _ => ?_) (fun b oe cls d pn hz hf => ?_)), ?_⟩
  · refine ⟨fun pz z τ Hz D J ⟨Ec, hW, y1, G1, m1, F1, P1, y2, y3, y4, y5, y6⟩ => ?_⟩
    have hc := act W' pn xe Ec p1 p2 tk' hW
    have hall := pss_one (ps_ret (pos := p4) (pe_lst (pos := p3) (pa_cons hc pa_nil)))
    exact hall.run pz z τ Hz D J ⟨y1, G1, m1, F1, P1, y2, y3, y4, fun v y G2 m2 H2 e2 rh2 rv2 q => ⟨by show 1 ≤ sizeLine; decide, y5 v y G2 m2 H2 e2 rh2 rv2 q⟩, y6⟩
  · refine ⟨fun pz z τ Hz D J ⟨y1, y2, G1, m1, F1, y3, y4, y5⟩ => ?_⟩
    subst y2
    have y1' : τ[i]? = some (some (V.ref b)) := by
      obtain ⟨τ0, rfl⟩ := y1
      have hl : (τ0.set i (some (V.ref b))).length = N.length := J.len
      rw [List.length_set] at hl
      rw [List.getElem?_set_self (by omega)]
    have hv : PE ((cxG X N x sc g cd s H E).suite b ((b, oe) :: pn)) (.Name n p7) (tVar i) := pe_var hi (.inl hn) hnd hnc
    have hro : L2H.RoomH k ((cxG X N x sc g cd s H E).suite b ((b, oe) :: pn)).A := ⟨hr.dp, hr.un⟩
    have hc := pe_hot (X := (cxG X N x sc g cd s H E).suite b ((b, oe) :: pn)) (q := p6) (pos := p8) FW hro hgd List.mem_cons_self hz hf hgw hmw hkw hbw LamX.takes0 (pa_cons hv pa_nil) hdw
    have hall := pss_one (ps_ret (pos := p9) hc)
    exact hall.run pz z τ Hz D J ⟨.ref b, y1', rfl, G1, m1, F1, y3, y4, y5⟩
  · refine ⟨fun cls d H' => ∃ G1 m1, Rh X.K G1 m1 H' ∧ Ex G G1 ∧ d = none ∧ PySem.W.exmOne X.K cls (.ref CS) = some true ∧ de cls m1 F, fun cls d σ' H' ⟨G1, m1, y1, y2, y3, y4, y5⟩ => ⟨true, y4, fun _ b _ => ⟨⟨_, rfl⟩, y3, G1, m1, F, y1, y5, cv.mono y2⟩, fun z => nomatch z⟩, h0 f, G, m, _, _, Ex.refl G, rh, hx, fun v y G1 m1 H1 e1 rh1 rv1 ⟨d, q1, q2⟩ p hp => ?_, fun cls d fs G1 m1 H1 e1 rh1 xf ⟨q1, q2, q3⟩ => ⟨G1, m1, rh1, e1, ?_, q2, q3⟩⟩
    · subst q1
      exact lstD_ok (ds := [d]) rh1 (.cons rv1 .nil) hp q2 (cv.mono e1)
    · rcases xf with ⟨_, h⟩ | ⟨h, _⟩
      · exact h
      · exact absurd q1 h
end Dl
/-! D32: a def whose code object is known; the end of a law that makes lambdas. -/
namespace Dl
open PySem PySem.Spec PyProof.Rows L2 Evl

/-- Fun, its code object told -/
structure FunC (K : PySem.W.Frag) (x qual : Str) (st : Stmt) (f : Addr) (fd : FuncData) (cdv : Value) : Prop where
  ex : ∃ (oc : Value) (od : Option Addr) (kV doc pm : Value) (an : Option Addr) (ct : Value) (osl : Array (Option Value)),
    fd = PySem.W.fnOf x qual (defArgs st) (defBody st) (defScope st) .none kV doc pm an cdv ct ∧ K.lookup f = some ⟨oc, od, .func fd, osl⟩ ∧ PySem.W.codeIn K cdv qual = true
  kp : PySem.W.keepIn K (.ref f) = true
theorem FunC.fn {K : PySem.W.Frag} {x qual : Str} {st : Stmt} {f : Addr} {fd : FuncData} {cdv : Value} (F : FunC K x qual st f fd cdv) : L2.Fun K x qual st f fd := by
  obtain ⟨oc, od, kV, doc, pm, an, ct, osl, h⟩ := F.ex
  exact ⟨⟨oc, od, kV, doc, pm, an, cdv, ct, osl, h⟩, F.kp⟩
section
variable {pr : Program} {w : World} {K : PySem.W.Frag} {mg : Str → Option Value} {base : Heap}
theorem FunC.dok {x qual : Str} {st : Stmt} {f : Addr} {fd : FuncData} {cdv : Value} {N ps : List Str} {k : Nat} {d : DSp} (F : FunC K x qual st f fd cdv) (S : FnScope N ps (defScope st)) (t : XS)
    (hb : ∀ (A : Around) (outer : List Env) (s : Shared) (H : Hp) (E : XK), Bx (cxD pr w K mg base N qual (defScope st) f cdv A outer s H E) (WE1 E) k → PassesOwn (model pr w) (cxD pr w K mg base N qual (defScope st) f cdv A outer s H E).A (cxD pr w K mg base N qual (defScope st) f cdv A outer s H E).env (cxD pr w K mg base N qual (defScope st) f cdv A outer s H E).xe →
      DSs (cxD pr w K mg base N qual (defScope st) f cdv A outer s H E) (WE1 E) (defBody st) t)
    (vc : ∀ ys m F P, d ys m F P → ys.length = ps.length ∧ t { nx := fun _ m => F (.d .none) m, rt := F, ex := fun c fs _ m => P c fs m } (startY N ys) m) : FnD pr w K mg base (k + 1) f fd ps d := by
  obtain ⟨oc, od, kV, doc, pm, an, ct, osl, rfl, lk, hcd⟩ := F.ex
  refine ⟨fun ys m F P h => (vc ys m F P h).1, fun A outer s H args us vs Q E hg hr e0 hbd r hsp => ?_⟩
  obtain ⟨G, m, ys, Fy, P, rh, rv, hd, cv, cx⟩ := hsp
  obtain ⟨hl, hvc⟩ := vc ys m Fy P hd
  have hlv : vs.length = ps.length := by rw [RVs.length rv]; exact hl
  have KX : K.In s.heap := e0.mod.kin.keeps fun b o e => (e0.bs b o e).1
  have hkind : ∀ y ∈ ps.zip us, (defScope st).names.lookup y.1 = some .local ∨ ((defScope st).names.lookup y.1 = some .cell ∧ ((cellsFrom (s.heap.objs.size + 1) (defScope st).names []).lookup y.1).isSome = true) := by
    rintro ⟨n, v⟩ hy
    exact (S.par n (List.of_mem_zip hy).1).imp id fun q => ⟨q, PySem.W.cellsFrom_some _ _ _ (.inl q)⟩
  refine codeAny_call_function hr.depth (KX _ _ lk) rfl S.co S.gen rfl (PySem.W.codeRec_of KX hcd) (hbd _ _ _ _ ?_)
  refine wpAny_newFunctionEnv_cells S.kind hkind fun env he s1 x => ?_
  subst he
  refine ⟨(e0.mod.nolimit.keeps fun b o e => (e0.bs b o e).1).keeps x.toInCall.keep, codeAny_func ?_⟩
  have bx : Bx (cxD pr w K mg base N qual (defScope st) f cdv A outer s H E) (WE1 E) k := ⟨hr.deeper _, hg, takes_of rfl rfl rfl rfl⟩
  have I := inv_start (CX := L2.CX pr w) (E := E) S hr.hd e0 hlv r x
  have go := (hb A outer s H E bx (passes_of rfl)).run (E := { nx := fun _ H' => Q .non H', rt := Q }) (start_rs (N := N) rv) rh hvc
    ⟨fun σ r G' m H' e1 _ rh1 q => cv .non _ G' m H' e1 rh1 (.d .non) q, fun v y G' m H' e1 rh1 rv1 q => cv v y G' m H' e1 rh1 rv1 q, fun _ _ _ _ _ _ _ _ q => q.elim, fun _ _ _ _ _ _ _ _ q => q.elim,
      fun c d fs σ r G' m H' e1 _ rh1 xf q => cx c d fs G' m H' e1 rh1 xf q⟩ [] s1 I
  have fin : ∀ {s' : Shared} {σ' : L2.St} {H' : Hp} {v : V} {u : Value}, Inv (cxD pr w K mg base N qual (defScope st) f cdv A outer s H E) [] σ' H' s' → RelV v u → Q v H' → CE outer pr w H s Q u s' :=
    fun J rv q => ⟨_, _, J.os, J.bare, J.base, J.hok, rv, q⟩
  refine wpAny_mono go (fun fl s' hs => ?_) fun e s' hs => hs
  match fl, hs with
  | .ret u, ⟨v, σ', H', J, rv, q⟩ => exact fin J rv q
  | .next, ⟨σ', H', J, q⟩ => exact fin (v := V.non) (u := Value.none) J rfl q
  | .brk, ⟨_, _, _, q⟩ => exact False.elim q
  | .cont, ⟨_, _, _, q⟩ => exact False.elim q
end

/-! ### the law's end, with tables of code objects -/
abbrev noTab : Obj := { cls := .none, data := .fields #[] }
/-- cs: code objects with their tables; T: the tables with what they tell -/
def dLawT (T : List (Addr × Str)) : DSp := fun ys m F _ => ∃ ns : List Int, ys = [.r (ns.map PyData.int)] ∧ ns.length ≤ 63 ∧ (∀ p ∈ T, m p.1 = some (.tab T)) ∧ ∀ m', F (.d (.bool true)) m'
section
variable {P : Program} {w : World} {K : PySem.W.Frag} {mg mb : Str → Option Value} {z : Shared}
/-- the abstract heap at the start: the tables, and what hS tells -/
def h0T (ts : List Addr) (S : Hp) : Hp := fun b => if b ∈ ts then some (.tbl #[]) else S b
theorem h0T_in {ts : List Addr} {S : Hp} {b : Addr} (h : b ∈ ts) : h0T ts S b = some (.tbl #[]) := if_pos h
theorem h0T_out {ts : List Addr} {S : Hp} {b : Addr} (h : b ∉ ts) : h0T ts S b = S b := if_neg h
theorem law_endT {k : Nat} {fa a : Addr} {fd : FuncData} {x : Str} {us : List Value} {ns : List Int} {cs : List (Addr × Addr)} {T : List (Addr × Str)} (eT : T.map (·.1) = cs.map (·.2))
    (KX : K.In z.heap) (hns : z.heap.Ns mainGlobals mg) (hb : z.heap.Ns builtinsNs mb) (hbb : ∀ x : Str, x ≠ "__name__" → mb x = bootBuiltins x) (hlim : z.heap.NoLimit) (hg : z.gens = #[])
    (hT : ∀ p ∈ cs, z.heap.get? p.2 = some noTab) (nT : ∀ p ∈ cs, K.lookup p.2 = none) (hC : ∀ p ∈ cs, PySem.W.CodeHd z.heap p.1 p.2)
    (hbm : ∃ (bm : Addr) (ob : Obj), mg "__builtins__" = some (.ref bm) ∧ bm ≠ builtinsNs ∧ z.heap.get? bm = some ob ∧ ob.cls = .type "module" ∧ ob.dict = some builtinsNs ∧ ob.data = .plain)
    (ha : z.heap.get? a = some { cls := .type "list", data := .seq us.toArray }) (hi : IntsAre us ns) (hl : ns.length ≤ 63) (hr : Room k callerA)
    (F : ∀ base : Heap, K.In base → base.Ns mainGlobals mg → (∀ p ∈ cs, LamX.TabB base mg p.1 p.2) → FnD P w K mg base k fa fd [x] (dLawT T)) (hbind : ∀ (s : Shared) (u : Value), BindsTo s fd ⟨[u], []⟩ [(x, u)]) :
    codeAny (model P w) callerA (.call (.ref fa) ⟨[.ref a], []⟩) (fun r s' => r = .ok (.ret (.bool true)) ∧ OldK z.heap s'.heap ∧ s'.os = z.os ∧ AllBare s'.gens) z := by
  have rv := vals_ints hi
  have lu := hi.length
  have l63 : ns.length ≤ sizeLine := Nat.le_trans hl (by decide)
  obtain ⟨ts, ets⟩ : ∃ ts, cs.map (·.2) = ts := ⟨_, rfl⟩
  have inT : ∀ p ∈ cs, p.2 ∈ ts := fun p hp => ets ▸ List.mem_map.mpr ⟨p, hp, rfl⟩
  have ofT : ∀ b ∈ ts, ∃ p ∈ cs, p.2 = b := fun b hb => List.mem_map.mp (ets ▸ hb)
  have getT : ∀ b ∈ ts, z.heap.get? b = some noTab := fun b hb => by
    obtain ⟨p, hp, rfl⟩ := ofT b hb
    exact hT p hp
  have kT : ∀ b ∈ ts, K.lookup b = none := fun b hb => by
    obtain ⟨p, hp, rfl⟩ := ofT b hb
    exact nT p hp
  have notT : ∀ {b : Addr} {o : Obj}, z.heap.get? b = some o → o.data ≠ .fields #[] → b ∉ ts := fun {b o} e d hb => by
    rw [getT b hb] at e
    cases e
    exact d rfl
  have aT : a ∉ ts := notT ha (fun q => nomatch q)
  have main : ∀ S : Hp, (∀ b, S b = none ∨ (b = a ∧ K.lookup b = none ∧ ∃ o xs, S b = some (.frz o (.lst xs)))) → SqL K (h0T ts S) a (ns.map V.int) → HOk P w (h0T ts S) z.heap →
      codeAny (model P w) callerA (.call (.ref fa) ⟨[.ref a], []⟩) (fun r s' => r = .ok (.ret (.bool true)) ∧ OldK z.heap s'.heap ∧ s'.os = z.os ∧ AllBare s'.gens) z := by
    intro S hS hq hok
    obtain ⟨H, eH⟩ : ∃ H, h0T ts S = H := ⟨_, rfl⟩
    rw [eH] at hq hok
    have hIn : ∀ b ∈ ts, H b = some (.tbl #[]) := fun b hb => by rw [← eH]; exact h0T_in hb
    have hOut : ∀ b, b ∉ ts → H b = S b := fun b hb => by rw [← eH]; exact h0T_out hb
    have hide : ∀ {b : Addr} {o : Obj}, z.heap.get? b = some o → H b = none → (hidT z.heap H).get? b = some o := fun e n => hidT_get e n
    have none_of : ∀ {b : Addr} {o : Obj}, z.heap.get? b = some o → o.data ≠ .fields #[] → (∀ vs n, o.data ≠ .seq vs n) → H b = none := fun {b o} e d1 d2 => by
      rw [hOut b (notT e d1)]
      rcases hS b with q | ⟨rfl, _, _⟩
      · exact q
      · rw [ha] at e; cases e; exact absurd rfl (d2 _ _)
    have dictFree : ∀ {b : Addr} {o : Obj} {es : Array DictEntry} {ep : Nat}, z.heap.get? b = some o → o.data = .dict es ep → H b = none := fun e d => none_of e (by rw [d]; exact fun q => nomatch q) (fun _ _ => by rw [d]; exact fun q => nomatch q)
    have nsOf : ∀ {b : Addr} {mm : Str → Option Value}, z.heap.Ns b mm → (hidT z.heap H).Ns b mm := fun {b mm} ⟨o, es, ep, e, d, q⟩ => ⟨o, es, ep, hide e (dictFree e d), d, q⟩
    have kin : K.In (hidT z.heap H) := fun b o e => hide (KX b o e) (by
      have nb : b ∉ ts := fun hb => by rw [kT b hb] at e; cases e
      rw [hOut b nb]
      rcases hS b with q | ⟨_, q, _⟩
      · exact q
      · rw [q] at e; cases e)
    have md : L2.Mod K mg (hidT z.heap H) := ⟨kin, nsOf hns, ⟨mb, nsOf hb, hbb⟩, by obtain ⟨mc, h1, h2⟩ := hlim; exact ⟨mc, nsOf h1, h2⟩⟩
    have mainNot : ∀ p ∈ cs, mainGlobals ≠ p.2 := fun p hp e => by
      obtain ⟨o, es, ep, e1, hd, _⟩ := hns
      rw [e, hT p hp] at e1
      cases e1
      cases hd
    have tb : ∀ p ∈ cs, LamX.TabB (hidT z.heap H) mg p.1 p.2 := fun p hp => by
      refine ⟨?_, ?_, mainNot p hp⟩
      · obtain ⟨o, vs, file, tf, flags, tg, inF, text, tt, e1, r1, r2, r3, rest⟩ := hC p hp
        exact ⟨o, vs, file, tf, flags, tg, inF, text, tt, hide e1 (none_of e1 (fun q => by rw [r2] at q; cases q; simp at r3) (fun _ _ q => by rw [r2] at q; cases q)), r1, r2, r3, rest⟩
      · obtain ⟨bm, ob, b1, b2, b3, b4, b5, b6⟩ := hbm
        refine ⟨bm, ob, b1, b2, fun q => ?_, fun q => ?_, hide b3 (none_of b3 (by rw [b6]; exact fun q => nomatch q) (fun _ _ => by rw [b6]; exact fun q => nomatch q)), b4, b5, b6⟩
        · obtain ⟨o, es, ep, e1, hd, _⟩ := hns
          rw [q, e1] at b3
          cases b3
          rw [hd] at b6
          cases b6
        · rw [q, hT p hp] at b3
          cases b3
          cases b6
    have e0 : Env0 P w K mg (hidT z.heap H) callerA [] z H := ⟨rfl, md, fun b o e => of_hidT e, Nat.le_of_eq (hidT_size _ _), trivial, (fun b q => nomatch q), hok, .of_eq hg⟩
    have mT : ∀ p ∈ T, p.1 ∈ ts := fun p hp => by rw [← ets, ← eT]; exact List.mem_map.mpr ⟨p, hp, rfl⟩
    have sOf : ∀ {b : Addr} {o : HO}, S b = some o → b ∉ ts → H b = some o := fun e nb => by rw [hOut _ nb]; exact e
    have rh : Rh K (fun b => if b ∈ ts then none else S b) (fun b => if b ∈ ts then some (.tab T) else none) H := by
      refine ⟨fun b o e => ?_, fun b o e => ?_, fun b o e => ?_, fun b T' e => ?_, fun b ps e => ?_⟩
      · by_cases hb : b ∈ ts
        · rw [if_pos hb] at e; cases e
        · rw [if_neg hb] at e; exact sOf e hb
      · by_cases hb : b ∈ ts
        · exact if_pos hb
        · rw [if_neg hb] at e; cases e
      · by_cases hb : b ∈ ts
        · rw [if_pos hb] at e; cases e; exact ⟨_, hIn b hb, .tab⟩
        · rw [if_neg hb] at e; cases e
      · by_cases hb : b ∈ ts
        · rw [if_pos hb] at e
          cases e
          refine ⟨?_, fun p hp => ⟨if_pos (mT p hp), #[], hIn _ (mT p hp), True.intro, fun pos cv hc => ?_⟩, fun b2 T2 e2 => ?_⟩
          · obtain ⟨p, hp, e3⟩ := List.mem_map.mp (show b ∈ T.map (·.1) by rw [eT, ets]; exact hb)
            exact ⟨p.2, by rw [← e3]; exact hp⟩
          · have hc' : codeAmong pos [] = some cv := hc
            simp [codeAmong] at hc'
          · by_cases hb2 : b2 ∈ ts
            · rw [if_pos hb2] at e2; cases e2; rfl
            · rw [if_neg hb2] at e2; cases e2
        · rw [if_neg hb] at e; cases e
      · by_cases hb : b ∈ ts
        · rw [if_pos hb] at e; cases e
        · rw [if_neg hb] at e
          rcases hS b with q | ⟨_, _, o, xs, q⟩ <;> rw [q] at e <;> cases e
    have hqG : SqL K (fun b => if b ∈ ts then none else S b) a (ns.map V.int) := by
      have ea : H a = (fun b => if b ∈ ts then none else S b) a := by rw [hOut a aT]; exact (if_neg aT).symm
      unfold SqL Rd at hq ⊢
      rw [← ea]
      exact hq
    have want : cz K (dLawT T) [.ref a] H (fun v _ => v = .bl true) (fun _ _ _ => False) :=
      ⟨_, _, [.r (ns.map PyData.int)], fun y _ => y = .d (.bool true), P0, rh, .cons (.r hqG (DaAll.ints ns)) .nil, ⟨ns, rfl, hl, fun p hp => if_pos (mT p hp), fun _ => rfl⟩,
        fun v y G' m' H' _ _ rv q => by subst q; exact rv.bl, fun _ _ _ _ _ _ _ _ _ q => q.elim⟩
    refine codeAny_mono ((F _ kin (nsOf hns) tb).run callerA [] z H ⟨[.ref a], []⟩ [.ref a] [.ref a] _ _ rfl hr e0 (hbind z (.ref a)) (.cons rfl .nil) want) fun r s' h => ?_
    match r, h with
    | .error e, ⟨_, _, _, _, _, _, _, _, _, _, _, _, q⟩ => exact q.elim
    | .ok .next, h => exact False.elim h
    | .ok .brk, h => exact False.elim h
    | .ok .cont, h => exact False.elim h
    | .ok (.ret u), ⟨v, H', os, bare, un, hok', r', q⟩ =>
      have q' : v = .bl true := q
      subst q'
      obtain rfl : u = Value.bool true := r'
      have key : ∀ b o, b ∉ ts → z.heap.get? b = some o → s'.heap.get? b = some o := fun b o nb e => by
        rcases hS b with q | ⟨_, _, ob, xs, q⟩
        · exact un.keep b o e (by rw [hOut b nb]; exact q) (fun y => nomatch y) (fun y => nomatch y)
        · have q2 := sOf q nb
          obtain ⟨e1, _⟩ := hok b _ q2
          obtain ⟨e2, _⟩ := hok' b _ (un.frzs b ob _ q2)
          rw [e] at e1
          cases e1
          exact e2
      have grown : ∀ b ∈ ts, ∃ more : Array Value, s'.heap.get? b = some { cls := .none, data := .fields more } := fun b hb => by
        obtain ⟨more, y⟩ := un.tbls b #[] (hIn b hb)
        exact ⟨_, hok' b _ y⟩
      refine ⟨rfl, ⟨fun b o e => ?_, fun b o e => ?_⟩, os, bare⟩
      · by_cases hb : b ∈ ts
        · obtain ⟨more, hm⟩ := grown b hb
          obtain ⟨p, hp, rfl⟩ := ofT b hb
          rw [hT p hp] at e
          cases e
          exact .inr (.inl ⟨((hC p hp).tab (hT p hp)).isCodeTable, rfl, #[], more, rfl, by rw [Array.empty_append]; exact hm⟩)
        · exact .inl (key b o hb e)
      · by_cases hb : b ∈ ts
        · obtain ⟨more, hm⟩ := grown b hb
          exact ⟨_, hm⟩
        · exact ⟨o, key b o hb e⟩
  cases hk : K.lookup a with
  | some o =>
    have e := KX a o hk
    rw [ha] at e
    cases e
    refine main (fun _ => none) (fun _ => .inl rfl) (.inr ⟨_, us.toArray, _, hk, rfl, rfl, rfl, by rw [List.size_toArray, lu]; exact l63, by simpa using rv⟩) fun b u q => ?_
    by_cases hb : b ∈ ts
    · rw [h0T_in hb] at q; cases q; exact getT b hb
    · rw [h0T_out hb] at q; cases q
  | none =>
    refine main (fun b => if b = a then some (.frz { cls := .type "list", data := .seq us.toArray } (.lst (ns.map V.int))) else none) (fun b => ?_) (.inl (.inr ⟨{ cls := .type "list", data := .seq us.toArray }, by rw [h0T_out aT]; exact if_pos rfl⟩)) (fun b u q => ?_)
    · by_cases hba : b = a
      · subst hba
        exact .inr ⟨rfl, hk, _, _, if_pos rfl⟩
      · exact .inl (if_neg hba)
    · by_cases hb : b ∈ ts
      · rw [h0T_in hb] at q; cases q; exact getT b hb
      · rw [h0T_out hb] at q
        by_cases hba : b = a
        · subst hba
          have q' := (if_pos rfl).symm.trans q
          cases q'
          exact ⟨ha, by rw [List.length_map]; exact l63, us, _, rv, ha⟩
        · have q' := (if_neg hba).symm.trans q
          cases q'
end
theorem tab_mk {K : PySem.W.Frag} {x : Str} {f c Pt : Addr} {oc oa : Value} {od ob : Option Addr} {fd : FuncData} {sl sb : Array (Option Value)} {vs : Array Value} (h1 : PySem.W.nsIn K mainGlobals x = some (some (.ref f))) (h2 : K.lookup f = some ⟨oc, od, .func fd, sl⟩) (h3 : fd.code = .ref c)
    (h4 : K.lookup c = some ⟨oa, ob, .fields vs, sb⟩) (h5 : vs[11]? = some (.ref Pt)) : PySem.W.tabIn K x = some (c, Pt) := by
  unfold PySem.W.tabIn
  rw [h1]
  dsimp only
  rw [h2]
  dsimp only
  rw [h3]
  dsimp only
  rw [h4]
  dsimp only
  rw [h5]
theorem funC_mk {K : PySem.W.Frag} {x qual : Str} {st : Stmt} {f : Addr} {oc : Value} {od an : Option Addr} {osl : Array (Option Value)} {kV doc pm cdv ct : Value} (l : K.lookup f = some ⟨oc, od, .func (PySem.W.fnOf x qual (defArgs st) (defBody st) (defScope st) .none kV doc pm an cdv ct), osl⟩)
    (c : PySem.W.codeIn K cdv qual = true) (k : PySem.W.keepIn K (.ref f) = true) : FunC K x qual st f (PySem.W.fnOf x qual (defArgs st) (defBody st) (defScope st) .none kV doc pm an cdv ct) cdv := ⟨⟨oc, od, kV, doc, pm, an, ct, osl, rfl, l, c⟩, k⟩
/-- walk_d for a law that makes lambdas: cs, its defs that make them, by name -/
theorem walk_dT {l : PySem.W.OpenLaw} {k : Nat} {q : Program} {loose : List Str} {XP : (Str → Option Value) → Heap → Prop} {YP : World → Heap → Prop} {d : DefRec} {K : Params → PySem.W.Frag} {x : Str}
    (hn : l.most = some 63) (hdf : d.params.defaults = []) (hr : Room k callerA) (hY : ∀ (w : World) (h : Heap), YP w h → (K w.params).In h)
    (F : ∀ (w : World) (mg : Str → Option Value) (fa : Addr) (h : Heap), (K w.params).In h → h.Ns mainGlobals mg → mg d.name = some (.ref fa) →
      ∃ (fd : FuncData) (cs : List (Str × Addr × Addr)) (T : List (Addr × Str)), T.map (·.1) = cs.map (·.2.2) ∧ (∀ p ∈ cs, (K w.params).lookup p.2.2 = none ∧ PySem.W.tabIn (K w.params) p.1 = some p.2 ∧ ((recsOf q).find? fun e => e.name == p.1).isSome = true) ∧
        (∀ (s : Shared) (u : Value), BindsTo s fd ⟨[u], []⟩ [(x, u)]) ∧ ∀ base : Heap, (K w.params).In base → base.Ns mainGlobals mg → (∀ p ∈ cs, LamX.TabB base mg p.2.1 p.2.2) → FnD l.prog w (K w.params) mg base k fa fd [x] (dLawT T)) :
    PySem.W.WalkO q loose XP YP l.row.toRowW d [] (fun f vs => PySem.call f vs) := by
  refine Att.attach_call hn hdf fun w s₀ s₁ mg mb fa o pm cd doc a vs ns G Y ho hd hcd hmg hobj hints hlen hg => ?_
  have kx := hY w _ Y
  obtain ⟨fd, cs, T, eT, hcs, hb, hF⟩ := F w mg fa _ kx G.T.g hmg
  have all : ∀ p ∈ cs, PySem.W.CodeHd s₁.heap p.2.1 p.2.2 ∧ s₁.heap.get? p.2.2 = some noTab := fun p hp => by
    obtain ⟨_, h2, h3⟩ := hcs p hp
    obtain ⟨r, hr⟩ := Option.isSome_iff_exists.mp h3
    exact PySem.W.tab_of (c := p.2.1) (P := p.2.2) G.T kx hr h2
  have mem : ∀ p ∈ cs.map (·.2), ∃ y ∈ cs, y.2 = p := fun p hp => List.mem_map.mp hp
  refine law_endT (cs := cs.map (·.2)) (T := T) (by rw [eT, List.map_map]; rfl) kx G.T.g G.T.b G.T.builtins G.T.nolimit hg (fun p hp => ?_) (fun p hp => ?_) (fun p hp => ?_) G.T.bmain hobj hints hlen hr (fun base h1 h2 h3 => hF base h1 h2 fun y hy => h3 _ (List.mem_map.mpr ⟨y, hy, rfl⟩)) hb
  · obtain ⟨y, hy, rfl⟩ := mem p hp; exact (all y hy).2
  · obtain ⟨y, hy, rfl⟩ := mem p hp; exact (hcs y hy).1
  · obtain ⟨y, hy, rfl⟩ := mem p hp; exact (all y hy).1
end Dl
/-! D33: an own exception whose __init__ says super().__init__(f"..{n}") and keeps n: raise X(n). -/
namespace Dl
open PySem PySem.Spec PyProof.Rows L2 Evl

section
variable {X : Cx} {pins : List (Addr × Obj)} {σ : L2.St} {H : Hp} {s : Shared} {a u C D : Addr} {us : List Value}
/-- ValueError.__init__, bound to an exception that is being made: nothing of it is told -/
theorem call_mw {Q : Value → Shared → Prop} {E : Value → Shared → Prop} (T : OexC X.K C) (I : Inv X pins σ H s) (e : H a = some (exo a C none)) (hu : s.heap.get? u = some (PySem.W.kxs_mw "ValueError.__init__" a)) (hl : us.length ≤ sizeLine)
    (h : ∀ s', Inv X pins σ H s' → Q .none s') : wpAny (model X.prog X.w) X.A (call (.ref u) us) Q E s := by
  obtain ⟨nm, q, N, bs, bm, sn, sub, ab, col, dd, k0, k1, k2, k3, k5, hC, hbm⟩ := T.cls
  obtain ⟨t1, ho⟩ := exo_at I.hok e
  have eu : upd H a (exo a C none) = H := by
    funext b
    by_cases hb : b = a
    · rw [hb, upd_same, e]
    · rw [upd_ne hb]
  obtain ⟨hp, g, d, t, os⟩ := s
  have fin : ∀ h', (∀ b o, b ≠ a → hp.get? b = some o → h'.get? b = some o) → h'.get? a = some (PySem.W.excObj C hp.objs.size none .none) → h'.get? hp.objs.size = some (PySem.W.excTup us) → Q .none ⟨h', g, d, t, os⟩ := fun h' k hx _ => by
    have J := I.write (t' := t) (x := a) (e := a) (o := exo a C none) (by rw [e]; exact True.intro) (.inl rfl) k ⟨_, hx⟩ (exo_ok hx)
    rw [eu] at J
    exact h _ J
  refine wpAny_call (codeAny_of_tree ?_)
  show wpAny _ X.A.in1 (callAny (.ref u) ⟨us, []⟩) _ _ _
  simp only [callAny]
  refine wpAny_bind (wpAny_load hu ?_)
  simp only [PySem.W.kxs_mw, show (Value.type "method-wrapper" == Value.type "method" || Value.type "method-wrapper" == Value.type "builtin_function_or_method" || Value.type "method-wrapper" == Value.type "method-wrapper") = true by decide, if_true]
  refine PySem.W.KFB.if_so (by decide) ?_
  refine wpAny_bind (PySem.W.check_bound_init PySem.F.excBase_ValueError.toExcCallFacts (I.kIn _ _ hC) ho rfl ?_)
  refine wpAny_bind (wpAny_pure (wpAny_pure ?_))
  refine ⟨PySem.plainId_quiet PySem.F.excBase_ValueError.init.plain _, codeAny_builtin PySem.F.excBase_ValueError.initEntry ?_⟩
  exact PySem.W.exc_init_tree (cls := .ref C) (t0 := t1) (dv := none) (c2 := .none) (c3 := .none) (b4 := .bool false) ho hl fin
/-- what super() finds of __init__ from the class D, of an exception of C -/
structure SupX (K : PySem.W.Frag) (C D : Addr) : Prop where
  hC : ∃ cd, PySem.W.clsIn K C = some cd
  hD : ∃ cd, PySem.W.clsIn K D = some cd
  sub : PySem.W.mroIn K C (.ref D) = some true
  at_ : PySem.W.ks_superIn K C D "__init__" = some (some (.builtin "ValueError.__init__"))
  isv : PySem.W.subIn K (.ref C) (.type "ValueError") = some true
  op : PySem.W.nsIn K cStatics "thirdparty.any" = some none
variable {bd : List Stmt} {i : Nat} {f cc : Addr} {fd : FuncData} {cdv : Value} {p0 p1 apos pos : Pos} {e : Expr} {te : TE}
theorem sup_exc {pl : Sem Bool} {Q : VK} (hsup : Gl X "super") (hms : X.mg "super" = none) (hcl : X.env.kindOf clsN = some .free) (hfu : X.env.func = some f) (hcd : X.env.code = cdv) (S : SupFact X.prog X.K f fd cdv cc D) (hcc : X.env.cells.lookup clsN = some cc)
    (hsf : X.N[i]? = some ("self" : Str)) (hv : Vis X.env.scope "self") (T : SupX X.K C D) (O : OexC X.K C) (he : PE X e te) (hx : te σ H fun z H1 => [z].length = 1 ∧ H1 a = some (exo a C none) ∧ Q .non H1) (I : Inv X pins σ H s) (hσ : σ[i]? = some (some (.ref a)))
    (ha0 : H a = some (exo a C none))
    (hst : starEach [e] X.env = (false, eval e X.env) :: starEach [] X.env := by rfl)
    (ht : eval (.Call (.Attribute (.Call (.Name "super" p0) [] [] p1) "__init__" apos) [e] [] pos) X.env = (attributeBase (.Call (.Name "super" p0) [] [] p1) "__init__" X.env (eval (.Call (.Name "super" p0) [] [] p1) X.env) >>= fun ov => standAt apos.atName >>= fun _ => holding [ov] (getMethod ov "__init__" pl) >>= fun z =>
      callWith pos z.1 z.2 (backTo pos (starEach [e] X.env)) []) := by rfl) :
    PySem.wpAt (model X.prog X.w) X.A (.func bd X.env) (eval (.Call (.Attribute (.Call (.Name "super" p0) [] [] p1) "__init__" apos) [e] [] pos) X.env) (EP X pins σ Q) X.xe s := by
  obtain ⟨oc, od, osl, hlk⟩ := S.lk
  obtain ⟨ar, har, hself⟩ := S.ar
  obtain ⟨cda, ocd, vs, file, tf, rfl, hcda, hvs, hfile, hff⟩ := S.code
  obtain ⟨ocl, hcell, hcv⟩ := S.cell
  obtain ⟨cdC, hC⟩ := T.hC
  obtain ⟨cdD, hD⟩ := T.hD
  have KX := I.kIn
  refine ks_wpAt_MethodCall (pl := pl) (ks_wpAt_super_base hsup hcl (by decide) hfu (KX _ _ hlk) rfl har hcd (KX _ _ hcda) hvs hfile hff S.nosup ?_) ht
  have hkind := I.ok.kind
  obtain ⟨mb, hmb, hbb⟩ := I.mod.blt
  refine PySem.W.ks_loadName_global hkind hsup (Calls.loadGlobal_builtin (mg := X.mg) (mb := mb) (v := .type "super") (by rw [I.ok.glob]; exact I.mod.glob.keeps I.bk) hms (by rw [I.ok.blt]; exact hmb.keeps I.bk) ((hbb _ (by decide)).trans Boot.super) ⟨rfl, ?_⟩)
  refine wpAny_loadName_free hkind hcl hcc ⟨ocl, KX _ _ hcell, hcv⟩ ?_
  have hD' : ∃ oD, X.K.lookup D = some oD ∧ oD.data = .cls cdD := by
    unfold PySem.W.clsIn at hD
    split at hD
    · rename_i heq
      cases hD
      exact ⟨_, heq, rfl⟩
    · cases hD
  obtain ⟨oD, hoD, hdD⟩ := hD'
  obtain ⟨t1, hoa⟩ := exo_at I.hok ha0
  have J : PySem.W.InstAt s.heap a _ C none := ⟨hoa, rfl, rfl, trivial⟩
  have after : wpAny (model X.prog X.w) X.A (PySem.isType (.ref D)) (fun b s4 => b = true ∧ wpAny (model X.prog X.w) X.A (call (.type "super") [.ref D, .ref a]) (fun ov s₁ => wpAny (model X.prog X.w) X.A (getMethod ov "__init__" pl) (fun fx s₂ => wpAny (model X.prog X.w) X.A (callWith pos fx.fst fx.snd (backTo pos (starEach [e] X.env)) []) (EP X pins σ Q) X.xe s₂) X.xe s₁) X.xe s4) X.xe s := by
    refine ks_wpAny_isType_cls (KX _ _ hoD) hdD ⟨rfl, ?_⟩
    refine ks_wpAny_call_super (KX _ _ hoD) hdD J.at_ J.cls (fun c hc => ?_) (PySem.W.looks_mroIn KX T.sub) fun h' hso keep => ?_
    · have := J.no
      unfold PySem.W.notCls at this
      rw [hc] at this
      cases this
    · have I1 := I.kept (t' := s.toks) keep
      have l1 : PySem.W.Looks (model X.prog X.w) h' (mroOf (.ref C)) cdC.mro := by
        intro A' Q' E' s' hk hq
        show wpAny _ _ (classData C >>= fun c => pure c.mro) _ _ _
        exact wpAny_bind (PySem.W.looks_clsIn (I1.kIn) hC A' _ E' s' hk (wpAny_pure hq))
      have halong : PySem.W.alongIn X.K "__init__" (List.drop 1 (List.dropWhile (fun x => x != Value.ref D) cdC.mro)) = some (some (.builtin "ValueError.__init__")) := by
        have h := T.at_
        unfold PySem.W.ks_superIn at h
        rw [hC] at h
        exact h
      have J1 : PySem.W.InstAt h' a _ C none := ⟨keep _ _ hoa, rfl, rfl, trivial⟩
      have hI : PySem.W.Looks (model X.prog X.w) h' (isInstance (.ref a) (.type "ValueError")) true := J1.type.andThen (PySem.W.looks_subIn I1.kIn T.isv)
      refine PySem.W.kxs_getMethod PySem.W.kxs_ValueError hso (PySem.W.looks_opaque I1.kIn T.op) l1 rfl I1.kIn halong hI (PySem.W.ks_ne KX J hC) (by decide) ?_
      have I2 := I1.kept (h' := h'.push (PySem.W.kxs_mw "ValueError.__init__" a)) (t' := s.toks + 1) fun b o e => Heap.get?_push_of_some _ e
      have hq2 : (h'.push (PySem.W.kxs_mw "ValueError.__init__" a)).get? h'.objs.size = some (PySem.W.kxs_mw "ValueError.__init__" a) := Heap.get?_push_size _ rfl
      have I3 := pin_in I2 hq2 ⟨I1.fresh, Nat.ne_of_gt I1.lt, I1.nofs (Nat.le_refl _)⟩ (fun v h => by cases h)
      refine PySem.W.kxs_callWith (i := "ValueError.__init__") (x := a) (by rw [hst]; rfl) ?_
      have hb' := (pa_cons he pa_nil hst).run pos _ _ σ H (fun vs H1 => vs.length = 1 ∧ H1 a = some (exo a C none) ∧ Q .non H1) I3 hx
      rw [hst] at hb' ⊢
      refine PySem.Calls.evalArgs_plain (thn hb' fun us s2 ⟨vs, H2, I4, r2, hlen, q2, q3⟩ => ?_)
      obtain ⟨I5, hu⟩ := pin_out I4
      refine ⟨hu, call_mw O I5 q2 hu ?_ fun s' J2 => ⟨.non, H2, J2, rfl, q3⟩⟩
      show us.length ≤ _
      rw [← r2.length, hlen]
      decide
  obtain ⟨m0, hm, hlook⟩ := I.loc
  obtain ⟨u, ru, lk⟩ := hlook i "self" (.ref a) hsf hσ hv
  obtain rfl : u = Value.ref a := ru
  rw [hself]
  rcases lk with ⟨k1, k2⟩ | ⟨k1 | k1, c, k2, k3⟩
  · exact wpAny_loadName_local hkind k1 hm k2 after
  · exact wpAny_loadName_cell hkind k1 k2 k3 after
  · exact wpAny_loadName_free hkind k1 k2 k3 after
end

/-! ### such an __init__ -/
/-- the def at f, an __init__(self, ..) of an own exception class, keeps the number as its field -/
structure FnL (pr : Program) (w : World) (K : PySem.W.Frag) (mg : Str → Option Value) (base : Heap) (k : Nat) (f : Addr) (fd : FuncData) (C : Addr) (pn fld : Str) : Prop where
  run : ∀ (A : Around) (outer : List Env) (s : Shared) (H : Hp) (args : Args) (a : Addr) (n : Int) (u : Value) (Q : VK), Room k A → Env0 pr w K mg base A outer s H → BindsTo s fd args [("self", .ref a), (pn, u)] → RelV (.int n) u → n.natAbs.log2 < 1920 →
    H a = some (exo a C none) → (∀ dx, H dx = none → dx ≠ a → Q .non (upd (upd H dx (exd dx [(fld, .int n)])) a (exo a C (some dx)))) → codeAny (model pr w) A (.call (.ref f) args) (CR (L2.CX pr w) outer pr w H s Q Eno) s
theorem FnL.mono {pr : Program} {w : World} {K : PySem.W.Frag} {mg : Str → Option Value} {base : Heap} {j k : Nat} {f C : Addr} {fd : FuncData} {pn fld : Str} (F : FnL pr w K mg base j f fd C pn fld) (h : j ≤ k) : FnL pr w K mg base k f fd C pn fld :=
  ⟨fun A outer s H args a n u Q hr => F.run A outer s H args a n u Q (hr.mono h)⟩
section
variable {pr : Program} {w : World} {K : PySem.W.Frag} {mg : Str → Option Value} {base : Heap} {x qual : Str} {st : Stmt} {f cc C D : Addr} {fd : FuncData} {cdv : Value} {k j : Nat} {pn fld tx : Str} {p0 p1 p2 p3 p4 p5 p6 p7 p8 p9 p10 p11 p12 : Pos}
theorem int_txt {n : Int} (h : n.natAbs.log2 < 1920) : (Str.ofString (toString n)).length ≤ 2000 := by
  have z := int_text_length_le (by decide) h
  rw [PySem.ofString_length]
  omega
/-- the first line of such an __init__ -/
theorem sup_st {X : Cx} {pl : Sem Bool} {bd : List Stmt} {s : Shared} {H : Hp} {a : Addr} {n : Int} (F : SupFact X.prog X.K f fd cdv cc D) (T : SupX X.K C D) (O : OexC X.K C) (hN : X.N = [("self" : Str), pn]) (hn : n.natAbs.log2 < 1920) (htx : tx.length ≤ 2000) (hms : X.mg "super" = none)
    (I : Inv X [] (L2.start ["self", pn] [V.ref a, V.int n]) H s) (hea : H a = some (exo a C none)) (hpn : X.env.scope.names.lookup pn = some .local) (hself : X.env.scope.names.lookup ("self" : Str) = some .local) (hsup : Gl X "super" := by rfl) (hcl : X.env.kindOf clsN = some .free := by rfl) (hfu : X.env.func = some f := by rfl)
    (hcd : X.env.code = cdv := by rfl) (hcc : X.env.cells.lookup clsN = some cc := by rfl)
    (hst : starEach [.JoinedStr [.Constant (.str tx) j p3, .FormattedValue (.Name pn p4) (-1) none p5] p6] X.env = (false, eval (.JoinedStr [.Constant (.str tx) j p3, .FormattedValue (.Name pn p4) (-1) none p5] p6) X.env) :: starEach [] X.env := by rfl)
    (ht : eval (.Call (.Attribute (.Call (.Name "super" p0) [] [] p1) "__init__" p2) [.JoinedStr [.Constant (.str tx) j p3, .FormattedValue (.Name pn p4) (-1) none p5] p6] [] p7) X.env = (attributeBase (.Call (.Name "super" p0) [] [] p1) "__init__" X.env (eval (.Call (.Name "super" p0) [] [] p1) X.env) >>= fun ov => standAt p2.atName >>= fun _ => holding [ov] (getMethod ov "__init__" pl) >>= fun z =>
      callWith p7 z.1 z.2 (backTo p7 (starEach [.JoinedStr [.Constant (.str tx) j p3, .FormattedValue (.Name pn p4) (-1) none p5] p6] X.env)) []) := by rfl)
    (hi : interactive X.env = false := by rfl) (hs : swapsWith (.Call (.Attribute (.Call (.Name "super" p0) [] [] p1) "__init__" p2) [.JoinedStr [.Constant (.str tx) j p3, .FormattedValue (.Name pn p4) (-1) none p5] p6] [] p7) none p8.line X.env = pure false := by rfl)
    (hd1 : (pn == ("__debug__" : Str)) = false := by decide) (hd2 : (pn == ("__classdict__" : Str)) = false := by decide) :
    PySem.wpAt (model X.prog X.w) X.A (.func bd X.env) (exec (.Expr (.Call (.Attribute (.Call (.Name "super" p0) [] [] p1) "__init__" p2) [.JoinedStr [.Constant (.str tx) j p3, .FormattedValue (.Name pn p4) (-1) none p5] p6] [] p7) p8) X.env)
      (fun fl s2 => fl = .next ∧ Inv X [] (L2.start ["self", pn] [V.ref a, V.int n]) H s2) X.xe s := by
  have hnm : PE X (.Name pn p4) (tVar 1) := pe_var (by rw [hN]; rfl) (.inl hpn) hd1 hd2
  refine ks_wpAt_Expr_any (ks_wpAt_mono (sup_exc (X := X) (Q := fun _ H1 => H1 = H) (i := 0) hsup hms hcl hfu hcd F hcc (by rw [hN]; rfl) (.inl hself) T O (pe_joined (.cons pe_str (.cons (pe_fmt hnm) .nil))) ?_ I rfl hea hst ht) (fun v s2 hv => ?_) fun _ _ q => q) hi hs
  · have e1 : (Str.empty ++ tx).length = tx.length := by rw [PySem.Str.empty_append]
    refine ⟨tx, rfl, Nat.le_trans (by rw [e1]; omega) szl, .int n, rfl, .inr ⟨n, rfl, hn, _, rfl, ?_, rfl, hea, rfl⟩⟩
    have z := int_txt hn
    refine Nat.le_trans ?_ szl
    rw [PySem.Str.length_append, e1]
    omega
  · obtain ⟨v2, H2, I2, _, e⟩ := hv
    cases e
    exact ⟨rfl, I2⟩
theorem SFun.lim {st1 st2 : Stmt} (F : SFun pr K x qual st f fd cdv cc D) (S : SupScope ["self", pn] ["self", pn] (defScope st)) (hb : defBody st = [st1, st2]) (O : OexC K C) (hno : PySem.W.findIn K (.ref C) fld = some none)
    (hs1 : (defScope st).names.lookup ("self" : Str) = some .local) (hs2 : (defScope st).names.lookup pn = some .local)
    (h1 : ∀ (A : Around) (outer : List Env) (s s1 : Shared) (H : Hp) (a : Addr) (n : Int), n.natAbs.log2 < 1920 → Inv (cxS pr w K mg base ["self", pn] qual (defScope st) f cdv cc A outer s H Eno) [] (L2.start ["self", pn] [V.ref a, V.int n]) H s1 → H a = some (exo a C none) →
      PySem.wpAt (model pr w) (cxS pr w K mg base ["self", pn] qual (defScope st) f cdv cc A outer s H Eno).A (.func [st1, st2] (cxS pr w K mg base ["self", pn] qual (defScope st) f cdv cc A outer s H Eno).env) (exec st1 (cxS pr w K mg base ["self", pn] qual (defScope st) f cdv cc A outer s H Eno).env)
        (fun fl s2 => fl = .next ∧ Inv (cxS pr w K mg base ["self", pn] qual (defScope st) f cdv cc A outer s H Eno) [] (L2.start ["self", pn] [V.ref a, V.int n]) H s2) (cxS pr w K mg base ["self", pn] qual (defScope st) f cdv cc A outer s H Eno).xe s1)
    (h2 : ∀ (A : Around) (outer : List Env) (s : Shared) (H : Hp), PS (cxS pr w K mg base ["self", pn] qual (defScope st) f cdv cc A outer s H Eno) st2 (tOst K fld (tVar 0) (tVar 1))) : FnL pr w K mg base (k + 1) f fd C pn fld := by
  obtain ⟨oc, od, kV, doc, pm, an, ct, osl, rfl, lk, hcd⟩ := F.ex
  obtain ⟨ocl, hcc, hoc⟩ := F.sf.cell
  refine ⟨fun A outer s H args a n u Q hr e0 hbd ru hn hea hq => ?_⟩
  have KX : K.In s.heap := e0.mod.kin.keeps fun b o e => (e0.bs b o e).1
  have rv : Vals [V.ref a, V.int n] [Value.ref a, u] := .cons rfl (.cons ru .nil)
  have hkind : ∀ y ∈ [("self" : Str), pn].zip [Value.ref a, u], (defScope st).names.lookup y.1 = some .local ∨ ((defScope st).names.lookup y.1 = some .cell ∧ ((cellsFrom (s.heap.objs.size + 1) (defScope st).names []).lookup y.1).isSome = true) := by
    rintro ⟨y, v⟩ hy
    have hy1 := (List.of_mem_zip hy).1
    rcases List.mem_cons.mp hy1 with h | h
    · exact .inl (h ▸ hs1)
    · exact .inl (List.mem_singleton.mp h ▸ hs2)
  refine codeAny_call_function hr.depth (KX _ _ lk) rfl S.fs.co S.fs.gen rfl (PySem.W.codeRec_of KX hcd) (hbd _ _ _ _ ?_)
  refine newFn_cl S.fs.kind hkind fun s1 x => ?_
  refine ⟨(e0.mod.nolimit.keeps fun b o e => (e0.bs b o e).1).keeps x.toInCall.keep, ks_codeAny_funcAt ?_⟩
  have I := inv_sup (qual := qual) (f := f) (cd := cdv) (E := Eno) (N := ["self", pn]) (ps := ["self", pn]) S hr.hd e0 rfl rv hcc hoc x
  have go : PySem.wpAt (model pr w) (cxS pr w K mg base ["self", pn] qual (defScope st) f cdv cc A outer s H Eno).A (.func (defBody st) (cxS pr w K mg base ["self", pn] qual (defScope st) f cdv cc A outer s H Eno).env) (execs (defBody st) (cxS pr w K mg base ["self", pn] qual (defScope st) f cdv cc A outer s H Eno).env)
      (SP (cxS pr w K mg base ["self", pn] qual (defScope st) f cdv cc A outer s H Eno) [] { nx := fun _ H' => Q .non H', rt := Q }) (cxS pr w K mg base ["self", pn] qual (defScope st) f cdv cc A outer s H Eno).xe s1 := by
    rw [hb]
    refine ks_wpAt_execs_cons (ks_wpAt_mono (h1 A outer s s1 H a n hn I hea) (fun fl s2 hv => ?_) fun _ _ q => q)
    obtain ⟨rfl, I2⟩ := hv
    exact wpAt_of_wpAny ((pss_one (h2 A outer s H)).run [] s2 _ _ _ I2 ⟨.int n, rfl, .ref a, rfl, a, C, rfl, O, hno, .inl ⟨hea, fun dx h1 h2 => hq dx h1 h2⟩⟩)
  have fin : ∀ {s' : Shared} {σ' : L2.St} {H' : Hp} {v : V} {u : Value}, Inv (cxS pr w K mg base ["self", pn] qual (defScope st) f cdv cc A outer s H Eno) [] σ' H' s' → RelV v u → Q v H' → CE outer pr w H s Q u s' :=
    fun J rv q => ⟨_, _, J.os, J.bare, J.base, J.hok, rv, q⟩
  refine ks_wpAt_mono go (fun fl s' hs => ?_) fun e s' hs => hs
  match fl, hs with
  | .ret u, ⟨v, σ', H', J, rv, q⟩ => exact fin J rv q
  | .next, ⟨σ', H', J, q⟩ => exact fin (v := V.non) (u := Value.none) J rfl q
  | .brk, ⟨_, _, _, q⟩ => exact False.elim q
  | .cont, ⟨_, _, _, q⟩ => exact False.elim q
end
end Dl
/-! D34: raise X(n) of such a class; several except clauses that name the exception. -/
namespace Dl
open PySem PySem.Spec PyProof.Rows L2 Evl

/-- what is known of the class -/
structure LimC (K : PySem.W.Frag) (mg : Str → Option Value) (x : Str) (C fI : Addr) : Prop where
  ox : OexC K C
  gC : mg x = some (.ref C)
  init : PySem.W.findIn K (.ref C) "__init__" = some (some (.ref fI))
  ty : PySem.W.typeIn K (.ref fI) = some (.type "function")
section
variable {X : Cx} {W : WX} {C fI : Addr} {k : Nat} {fd : FuncData} {pn fld x : Str} {e : Expr} {te : XE} {p pos pos' : Pos}
/-- C(n), to be raised -/
theorem pmk_lim (T : LimC X.K X.mg x C fI) (F : FnL X.prog X.w X.K X.mg X.base k fI fd C pn fld) (hr : Room (k + 1) X.A) (hb : Binds X.K fd ["self", pn] []) (hg : Gl X x) (hdb : (x == ("__debug__" : Str)) = false := by decide)
    (hst : starEach [e] X.env = (false, eval e X.env) :: starEach [] X.env := by rfl) :
    PMk X (.Call (.Name x p) [e] [] pos) (fun σ H Q => SE X e σ H fun v H1 => ∃ n : Int, v = .int n ∧ n.natAbs.log2 < 1920 ∧ ∀ d, H1 d = none → Q (.ref C) (some d) (upd H1 d (.xd [(fld, .int n)]))) := by
  intro pins s σ H Q I h
  obtain ⟨nm, q, N, bs, bm, sn, sub, ab, col, dd, k0, k1, k2, k3, k5, hC, hbm⟩ := T.ox.cls
  refine wpAny_Call_Name_kw (ld_glob I hg T.gC ?_ hdb)
  refine PySem.W.callWith_K (h₀ := X.base) I.ok.mod.kin T.ox.kC (thn ((pa_cons se_pe pa_nil hst).run pos pins s σ H (fun vs H1 => ∃ v, vs = [v] ∧ ∃ n : Int, v = .int n ∧ n.natAbs.log2 < 1920 ∧ ∀ d, H1 d = none → Q (.ref C) (some d) (upd H1 d (.xd [(fld, .int n)]))) I ?_) fun us s1 ⟨vs, H1, I1, r1, v, ev, n, en, hn, q1⟩ => ⟨I1.kIn, ?_⟩) hst rfl
  · exact fun pins' s' I' => thn (h pins' s' I') fun u s1 ⟨v, H1, I1, r, q⟩ => ⟨v, H1, I1, r, v, rfl, q⟩
  subst ev en
  obtain ⟨u, rfl, ru⟩ := r1.one
  show wpAny _ _ (call (.ref C) [u]) _ _ _
  obtain ⟨hp, g, dr, tk, os⟩ := s1
  have hsz : hp.objs.size ≤ hp.objs.size + 1 := Nat.le_succ _
  have hn1 : H1 (hp.objs.size + 1) = none := I1.hok.fresh hsz
  have kk : ∀ b o, hp.get? b = some o → ((hp.push (PySem.W.kdv_tup [u])).push (PySem.HandSPX.excO C hp.objs.size)).get? b = some o := fun b o e => Heap.get?_push_of_some _ (Heap.get?_push_of_some _ e)
  have hget : ((hp.push (PySem.W.kdv_tup [u])).push (PySem.HandSPX.excO C hp.objs.size)).get? (hp.objs.size + 1) = some (PySem.HandSPX.excO C hp.objs.size) := by heap_get
  have I2 : Inv X pins σ (upd H1 (hp.objs.size + 1) (exo (hp.objs.size + 1) C none)) ⟨(hp.push (PySem.W.kdv_tup [u])).push (PySem.HandSPX.excO C hp.objs.size), g, dr, tk, os⟩ :=
    I1.laid (t' := tk) (a := hp.objs.size + 1) (o := exo (hp.objs.size + 1) C none) (h' := (hp.push (PySem.W.kdv_tup [u])).push (PySem.HandSPX.excO C hp.objs.size)) kk hsz (exo_ok hget)
  have hbd := hb _ [Value.ref (hp.objs.size + 1), u] I2.kIn rfl
  have run := F.run (X.A.under (.builtin "type.__call__" ⟨.ref C :: [u], []⟩)) X.stack _ _ ⟨[Value.ref (hp.objs.size + 1), u], []⟩ (hp.objs.size + 1) n u
    (fun v H2 => v = .non ∧ ∃ d, H1 d = none ∧ d ≠ hp.objs.size + 1 ∧ H2 = upd (upd (upd H1 (hp.objs.size + 1) (exo (hp.objs.size + 1) C none)) d (exd d [(fld, .int n)])) (hp.objs.size + 1) (exo (hp.objs.size + 1) C (some d)))
    (hr.make C [u] []) (I2.env0.make C [u] []) hbd ru hn upd_same (fun dx h1 h2 => ⟨rfl, dx, by rwa [upd_ne h2] at h1, h2, rfl⟩)
  refine wpAny_call (PySem.HandSPX.call_own PySem.F.excBase_ValueError (fun Y => PySem.HandSPX.refsVE_contains Y bm hbm) (I1.kIn _ _ hC) (PySem.W.looks_findIn I1.kIn T.init) (fun self => PySem.W.bind_fn I1.kIn self T.ty) (by show 1 ≤ _; decide) (codeAny_mono run fun r s' hq' => ?_))
  cases r with
  | error er => exact passAt (W := W0) LamX.takes0 σ pins _ _ er s' I2 hq'
  | ok fl =>
    cases fl with
    | ret u =>
      obtain ⟨v, H2, os2, bare2, un2, hok2, rv, ev, d, hd1, hd2, eH⟩ := hq'
      subst ev
      obtain ⟨h2, g2, d2, t2, os'⟩ := s'
      have ea : H2 (hp.objs.size + 1) = some (exo (hp.objs.size + 1) C (some d)) := by rw [eH, upd_same]
      have ed : H2 d = some (exd d [(fld, .int n)]) := by rw [eH, upd_ne hd2, upd_same]
      have eF : upd (del H2 (hp.objs.size + 1)) d (.xd [(fld, .int n)]) = upd H1 d (.xd [(fld, .int n)]) := by
        funext b
        by_cases h1 : b = d
        · rw [h1, upd_same, upd_same]
        · rw [upd_ne h1, upd_ne h1]
          by_cases h2 : b = hp.objs.size + 1
          · rw [h2, del_same, hn1]
          · rw [del_ne h2, eH, upd_ne h2, upd_ne h1, upd_ne h2]
      exact ⟨rv, mk_end (raises_own T.ox.exC T.ox.tyC) I1 hsz kk un2 hok2 os2 bare2 ea ed hd1 (eF ▸ q1 d hd1)⟩
    | next => exact False.elim hq'
    | brk => exact False.elim hq'
    | cont => exact False.elim hq'
abbrev xRaiseL (C : Addr) (fld : Str) (te : XE) : XS := fun D r m => te r m (fun y m1 => ∃ n : Int, y = .d (.int n) ∧ n.natAbs.log2 < 1920 ∧ D.ex (.ref C) [(fld, .d (.int n))] r m1) (D.at r)
theorem ds_raiseL (hc : X.calm = true) (tk : Takes X W) (T : LimC X.K X.mg x C fI) (F : FnL X.prog X.w X.K X.mg X.base k fI fd C pn fld) (hr : Room (k + 1) X.A) (hb : Binds X.K fd ["self", pn] []) (hg : Gl X x) (he : DE X W e te) (hdb : (x == ("__debug__" : Str)) = false := by decide)
    (hst : starEach [e] X.env = (false, eval e X.env) :: starEach [] X.env := by rfl) : DS X W (.Raise (some (.Call (.Name x p) [e] [] pos)) none pos') (xRaiseL C fld te) := ⟨fun {G r m σ H D E} rs rh hx f =>
  ss_of (ps_raise hc tk (pmk_lim T F hr hb hg hdb hst)) (he.run rs rh hx (fun v y G1 m1 H1 e1 rh1 rv1 ⟨n, q1, q2, q3⟩ => by
    subst q1
    refine ⟨n, rv1.int, q2, fun d hd => ?_⟩
    have gn : G1 d = none := by
      cases q : G1 d with
      | none => rfl
      | some u => exact absurd ((rh1.sub d u q).symm.trans hd) (fun z => nomatch z)
    have rh2 : Rh X.K G1 m1 (upd H1 d (.xd [(fld, .int n)])) := ⟨fun b u q => by rw [upd_ne (ne_of_none (rh1.sub b u q) hd)]; exact rh1.sub b u q, rh1.off, fun b u q => by
      obtain ⟨z, z1, z2⟩ := rh1.mem b u q
      exact ⟨z, by rw [upd_ne (ne_of_none z1 hd)]; exact z1, z2⟩, rh1.tb.keep (Ex.refl _) (fun _ _ z => z) (fun _ _ z => z) (fun b o e _ => by rw [upd_ne (ne_of_none e hd)]; exact e), rh1.nt⟩
    exact f.ex _ (some d) [(fld, .d (.int n))] σ r G1 m1 _ e1 (rs.mono e1) rh2 (.inr ⟨by simp, d, _, rfl, upd_same, gn, .cons ⟨rfl, .d (.int n)⟩ .nil⟩) q3) (f.cx rs))⟩
end
end Dl
/-! D35: an exception with a dict in an except suite: its class, its numbers; defs that are called with it there. -/
namespace Dl
open PySem PySem.Spec PyProof.Rows L2 Evl

/-- the exception at a and its dict are pinned: its class, its numbers -/
def PinE (K : PySem.W.Frag) (ps : List (Addr × Obj)) (a : Addr) (cls : Value) (fs : List (Str × Y)) : Prop :=
  ∃ oe d, (a, oe) ∈ ps ∧ Zc cls d oe ∧ (∃ vs, oe.data = .fields vs) ∧ ((d = none ∧ fs = []) ∨ ∃ dd od, d = some dd ∧ (dd, od) ∈ ps ∧ ∀ n i, fs.lookup n = some (.d (.int i)) → ∃ u, PySem.W.lookIn n od = some (some u) ∧ RelV (.int i) u)
theorem PinE.sub {K : PySem.W.Frag} {ps qs : List (Addr × Obj)} {a : Addr} {cls : Value} {fs : List (Str × Y)} (h : PinE K ps a cls fs) (hs : ∀ q ∈ ps, q ∈ qs) : PinE K qs a cls fs := by
  obtain ⟨oe, d, h1, h2, h3, h4⟩ := h
  refine ⟨oe, d, hs _ h1, h2, h3, ?_⟩
  rcases h4 with h4 | ⟨dd, od, e, h5, h6⟩
  · exact .inl h4
  · exact .inr ⟨dd, od, e, hs _ h5, h6⟩
theorem pinE_inst {K : PySem.W.Frag} {h : Heap} {ps : List (Addr × Obj)} {a D : Addr} {fs : List (Str × Y)} (P : PinE K ps a (.ref D) fs) (hp : ∀ q ∈ ps, h.get? q.1 = some q.2) : ∃ oe od, PySem.W.InstAt h a oe D od ∧
    ∀ n i, fs.lookup n = some (.d (.int i)) → ∃ o u, od = some o ∧ PySem.W.lookIn n o = some (some u) ∧ RelV (.int i) u := by
  obtain ⟨oe, d, h1, h2, ⟨vs, h3⟩, h4⟩ := P
  have hget := hp _ h1
  have nc : PySem.W.notCls oe = true := by unfold PySem.W.notCls; rw [h3] <;> rfl
  rcases h4 with ⟨rfl, rfl⟩ | ⟨dd, od, rfl, h5, h6⟩
  · exact ⟨oe, none, ⟨hget, h2.1, nc, by rw [h2.2]; trivial⟩, fun n i z => nomatch z⟩
  · exact ⟨oe, some od, ⟨hget, h2.1, nc, by rw [h2.2]; exact hp _ h5⟩, fun n i z => by
      obtain ⟨u, e1, e2⟩ := h6 n i z
      exact ⟨od, u, rfl, e1, e2⟩⟩
section
variable {X : Cx} {pins : List (Addr × Obj)} {σ : L2.St} {H : Hp} {s : Shared}
theorem pins_in {qs : List (Addr × Obj)} (I : Inv X pins σ H s) (h : ∀ q ∈ qs, s.heap.get? q.1 = some q.2 ∧ H q.1 = none ∧ q.1 ≠ X.env.locals ∧ q.1 ∉ X.fs ∧ ∀ v, q.2.data ≠ .cell v) : Inv X (qs ++ pins) σ H s :=
  ⟨I.ok, I.os, I.bare, I.base, I.loc, I.cell, I.free, I.freeC, fun p hp => by
    rcases List.mem_append.mp hp with hp | hp
    · exact I.pin p (List.mem_append.mpr (.inl hp))
    · rcases List.mem_append.mp hp with hp | hp
      · exact h p hp
      · exact I.pin p (List.mem_append.mpr (.inr hp)), I.hok, I.len⟩
/-- the dict of an exception need be tracked no longer: it is pinned -/
theorem unxd {dd : Addr} {vs : List (Str × V)} (I : Inv X pins σ H s) (h : H dd = some (.xd vs)) : ∃ od, Inv X ((dd, od) :: pins) σ (del H dd) s ∧ ∀ n i, vs.lookup n = some (.int i) → ∃ u, PySem.W.lookIn n od = some (some u) ∧ RelV (.int i) u := by
  have hx : ObjOk X.prog X.w H s.heap dd (.xd vs) := I.hok dd _ h
  obtain ⟨mA, hns, hr⟩ := hx
  obtain ⟨od, ho, hl⟩ := lookIn_ns hns
  have hnc : ∀ v, od.data ≠ .cell v := fun v z => by
    obtain ⟨o, es, ep, e1, e2, _⟩ := hns
    have q := e1.symm.trans ho
    cases q
    rw [z] at e2
    cases e2
  have neN : ∀ b, H b = none → b ≠ dd := fun b e z => by
    rw [z, h] at e
    cases e
  have hn : ∀ b, H b = none → del H dd b = none := fun b e => by rw [del_ne (neN b e)]; exact e
  have neO : ∀ b c, H b = some (.own c) → b ≠ dd := fun b c e z => by
    rw [z, h] at e
    cases e
  have neT : ∀ b xs, H b = some (.tup xs) → b ≠ dd := fun b c e z => by
    rw [z, h] at e
    cases e
  have neF : ∀ b o u, H b = some (.frz o u) → b ≠ dd := fun b o c e z => by
    rw [z, h] at e
    cases e
  have neB : ∀ b xs, H b = some (.tbl xs) → b ≠ dd := fun b c e z => by
    rw [z, h] at e
    cases e
  have nF : dd ∉ X.fs := fun hm => by
    obtain ⟨_, o, ho, _⟩ := I.ok.funs.mem hm
    have q := I.base.free dd o ho (I.ok.frf dd hm) fun z => I.ok.exfs dd z hm
    rw [h] at q
    cases q
  refine ⟨od, ⟨I.ok, I.os, I.bare, ⟨I.base.keep, I.base.slot, fun b o e n q => hn b (I.base.free b o e n q), I.base.there, fun b xs e => ?_, fun b o u e => ?_, fun b ps e => ?_⟩, I.loc, I.cell, hn _ I.free, fun x c e => hn _ (I.freeC x c e), fun p hp => ?_, fun b u e => ?_, I.len⟩, fun n i e => ?_⟩
  · have q := I.base.tups b xs e
    rw [del_ne (neT b xs q)]
    exact q
  · have q := I.base.frzs b o u e
    rw [del_ne (neF b o u q)]
    exact q
  · obtain ⟨m, q⟩ := I.base.tbls b ps e
    exact ⟨m, by rw [del_ne (neB b _ q)]; exact q⟩
  · rcases List.mem_append.mp hp with hp | hp
    · have q := I.pin p (List.mem_append.mpr (.inl hp))
      exact ⟨q.1, hn _ q.2.1, q.2.2⟩
    · rcases List.mem_cons.mp hp with rfl | hp
      · exact ⟨ho, del_same, (neN _ I.free).symm, nF, hnc⟩
      · have q := I.pin p (List.mem_append.mpr (.inr hp))
        exact ⟨q.1, hn _ q.2.1, q.2.2⟩
  · have hb : b ≠ dd := fun z => by
      rw [z, del_same] at e
      cases e
    rw [del_ne hb] at e
    exact (I.hok b u e).stay (fun c v hc q => q) (fun c q => by rw [del_ne (neO c b q)]; exact q) fun c xs q => by rw [del_ne (neT c xs q)]; exact q
  · obtain ⟨u, hu, ru⟩ := RelO.some_of (v := .int i) (o := mA n) (by rw [← e]; exact hr n)
    exact ⟨u, by rw [hl, hu], ru⟩
end
theorem Rh.unxd {K : PySem.W.Frag} {G H : Hp} {m : Mu} {dd : Addr} {vs : List (Str × V)} (rh : Rh K G m H) (h : H dd = some (.xd vs)) (hg : G dd = none) : Rh K G m (del H dd) := by
  have nm : ∀ b o, m b = some o → b ≠ dd := fun b o e z => by
    obtain ⟨w, h1, h2⟩ := rh.mem b o e
    rw [z, h] at h1
    cases h1
    cases h2
  have ng : ∀ b o, G b = some o → b ≠ dd := fun b o e z => by
    rw [z, hg] at e
    cases e
  exact ⟨fun b u q => by rw [del_ne (ng b u q)]; exact rh.sub b u q, rh.off, fun b u q => by
    obtain ⟨z, z1, z2⟩ := rh.mem b u q
    exact ⟨z, by rw [del_ne (nm b u q)]; exact z1, z2⟩, rh.tb.keep (Ex.refl _) (fun _ _ z => z) (fun _ _ z => z) (fun b o e ⟨T, hT⟩ => by rw [del_ne (nm b _ hT)]; exact e), rh.nt⟩
/-! ### defs that are called with the exception -/
structure FnF (pr : Program) (w : World) (K : PySem.W.Frag) (mg : Str → Option Value) (base : Heap) (k : Nat) (f : Addr) (fd : FuncData) (p : Str) (de : DEx) : Prop where
  run : ∀ (A : Around) (outer : List Env) (s : Shared) (H : Hp) (args : Args) (Q : VK) (a : Addr) (cls : Value) (fs : List (Str × Y)) (qs : List (Addr × Obj)), A.guards = some [] → L2H.RoomH k A → (∀ q ∈ qs, L2H.PinOk outer H s q) → PinE K qs a cls fs →
    Env0 pr w K mg base A outer s H → BindsTo s fd args [(p, .ref a)] → (∃ G m F, Rh K G m H ∧ de cls m F ∧ CvE K G F Q) → codeAny (model pr w) A (.call (.ref f) args) (CR (L2.CX pr w) outer pr w H s Q Eno) s
theorem FnF.mono {pr : Program} {w : World} {K : PySem.W.Frag} {mg : Str → Option Value} {base : Heap} {j k : Nat} {f : Addr} {fd : FuncData} {p : Str} {de : DEx} (F : FnF pr w K mg base j f fd p de) (h : j ≤ k) : FnF pr w K mg base k f fd p de :=
  ⟨fun A outer s H args Q a cls fs qs hg hr => F.run A outer s H args Q a cls fs qs hg (hr.mono h)⟩
abbrev cxF (pr : Program) (w : World) (K : PySem.W.Frag) (mg : Str → Option Value) (base : Heap) (N : List Str) (qual : Str) (sc : Scope) (f : Addr) (cd : Value) (A : Around) (outer : List Env) (s : Shared) (H : Hp) (q : Addr × Obj) (qs : List (Addr × Obj)) : Cx :=
  (cxE pr w K mg base N qual sc f cd A outer s H q).tr ([q] ++ (qs ++ [])) (cxE pr w K mg base N qual sc f cd A outer s H q).xe
structure BxF (X : Cx) (k : Nat) (a : Addr) (cls : Value) : Prop where
  hr : L2H.RoomH k X.A
  gd : X.A.guards = some []
  tk : Takes X (WE1 Eno)
  pin : ∃ fs, PinE X.K X.pn a cls fs
section
variable {pr : Program} {w : World} {K : PySem.W.Frag} {mg : Str → Option Value} {base : Heap}
theorem Fun.dokF {x qual p : Str} {st : Stmt} {f : Addr} {fd : FuncData} {N : List Str} {k : Nat} {de : DEx} (F : L2.Fun K x qual st f fd) (S : FnScope N [p] (defScope st)) (t : Addr → Value → XS)
    (hb : ∀ (a : Addr) (cls cdv : Value) (A : Around) (outer : List Env) (s : Shared) (H : Hp) (oe : Obj) (qs : List (Addr × Obj)), BxF (cxF pr w K mg base N qual (defScope st) f cdv A outer s H (a, oe) qs) k a cls → DSs (cxF pr w K mg base N qual (defScope st) f cdv A outer s H (a, oe) qs) (WE1 Eno) (defBody st) (t a cls))
    (vc : ∀ a cls m F, de cls m F → t a cls { nx := fun _ m => F (.d .none) m, rt := F } (startY N [.v (.ref a)]) m) : FnF pr w K mg base (k + 1) f fd p de := by
  obtain ⟨oc, od, kV, doc, pm, an, cdv, ct, osl, rfl, lk, hcd⟩ := F.ex
  refine ⟨fun A outer s H args Q a cls fs qs hg hr hpin hP e0 hbd ⟨G, m, Fy, rh, hd, cv⟩ => ?_⟩
  obtain ⟨oe, d0, hq0, _⟩ := id hP
  have KX : K.In s.heap := e0.mod.kin.keeps fun b o e => (e0.bs b o e).1
  have hkind : ∀ y ∈ [(p, Value.ref a)], (defScope st).names.lookup y.1 = some .local ∨ ((defScope st).names.lookup y.1 = some .cell ∧ ((cellsFrom (s.heap.objs.size + 1) (defScope st).names []).lookup y.1).isSome = true) := by
    intro y hy
    rw [List.mem_singleton.mp hy]
    exact (S.par p List.mem_cons_self).imp id fun q => ⟨q, PySem.W.cellsFrom_some _ _ _ (.inl q)⟩
  refine codeAny_call_function hr.depth (KX _ _ lk) rfl S.co S.gen rfl (PySem.W.codeRec_of KX hcd) (hbd _ _ _ _ ?_)
  refine wpAny_newFunctionEnv_cells S.kind hkind fun env he s1 x => ?_
  subst he
  refine ⟨(e0.mod.nolimit.keeps fun b o e => (e0.bs b o e).1).keeps x.toInCall.keep, codeAny_func ?_⟩
  have bx : BxF (cxF pr w K mg base N qual (defScope st) f cdv A outer s H (a, oe) qs) k a cls := ⟨hr.deeper _, hg, takes_of rfl rfl rfl rfl, fs, hP.sub fun q hq => List.mem_append_right _ (List.mem_append_left _ hq)⟩
  have rv : RVs K G [V.ref a] [.v (.ref a)] := .cons (.v _) .nil
  have I0 := L2H.inv_startH (CX := L2.CX pr w) (E := Eno) (vs := [V.ref a]) (us := [.ref a]) (ps := [p]) S (hpin _ hq0) e0 rfl (.cons rfl .nil) x
  have I1 := (pins_in (qs := qs) I0 fun q hq => ⟨x.toInCall.keep _ _ (hpin q hq).get, (hpin q hq).free, Nat.ne_of_lt (Heap.lt_size (hpin q hq).get), (hpin q hq).nofs, (hpin q hq).nocell⟩).toTry (cxE pr w K mg base N qual (defScope st) f cdv A outer s H (a, oe)).xe
  have go := (hb a cls cdv A outer s H oe qs bx).run (E := { nx := fun _ H' => Q .non H', rt := Q }) (start_rs (N := N) rv) rh (vc a cls m Fy hd)
    ⟨fun σ r G' m' H' e1 _ rh1 q => cv .non _ G' m' H' e1 rh1 (.d .non) q, fun v y G' m' H' e1 rh1 rv1 q => cv v y G' m' H' e1 rh1 rv1 q, fun _ _ _ _ _ _ _ _ q => q.elim, fun _ _ _ _ _ _ _ _ q => q.elim, fun _ _ _ _ _ _ _ _ _ _ _ _ q => q.elim⟩ [] s1 I1
  have fin : ∀ {s' : Shared} {σ' : L2.St} {H' : Hp} {v : V} {u : Value}, Inv (cxF pr w K mg base N qual (defScope st) f cdv A outer s H (a, oe) qs) [] σ' H' s' → RelV v u → Q v H' → CE outer pr w H s Q u s' :=
    fun J rv q => ⟨_, _, J.os, J.bare, J.base, J.hok, rv, q⟩
  refine wpAny_mono go (fun fl s' hs => ?_) fun e s' hs => hs
  match fl, hs with
  | .ret u, ⟨v, σ', H', J, rv, q⟩ => exact fin J rv q
  | .next, ⟨σ', H', J, q⟩ => exact fin (v := V.non) (u := Value.none) J rfl q
  | .brk, ⟨_, _, _, q⟩ => exact False.elim q
  | .cont, ⟨_, _, _, q⟩ => exact False.elim q
end
/-! ### isinstance(e, C) -/
theorem cd_isF {X : Cx} {k : Nat} {a : Addr} {cls : Value} (B : BxF X k a cls) : CallD X (.builtin "isinstance") (xIsE X.K a cls) := by
  obtain ⟨fs, hP⟩ := B.pin
  refine ⟨fun xs H Q => ∃ (D : Addr) (c : V) (cv : Value) (b : Bool), cls = .ref D ∧ ExcC X.K D ∧ xs = [.ref a, c] ∧ (∀ u, RelV c u → u = cv) ∧ PySem.W.kitOne X.K cls cv = some b ∧ Q (.bl b) H, ?_, fun {G m H vs ys F Q} rh rv hx cv => ?_⟩
  · intro pins s σ H xs us Q I r ⟨D, c, cv, b, ecls, C, ex, hcv, e, q⟩
    subst ex ecls
    obtain ⟨u0, us', rfl, r0, rr⟩ : ∃ u0 us', us = u0 :: us' ∧ RelV (.ref a) u0 ∧ Vals [c] us' := by
      cases r with
      | cons h t => exact ⟨_, _, rfl, h, t⟩
    obtain ⟨u1, rfl, r1⟩ := rr.one
    cases r0
    cases hcv _ r1
    obtain ⟨oe, od, J, _⟩ := pinE_inst (h := s.heap) hP fun q hq => (I.pin q (List.mem_append_left _ hq)).1
    have hcl : (PySem.W.clsIn X.K D).isSome = true := by
      obtain ⟨cd, hc, _⟩ := PySem.W.any_some C.hd
      rw [hc]; rfl
    exact PySem.W.kia_one (PySem.W.kitx_exc hcl C.hg C.hk C.hs C.ha C.hn C.ht C.hm) I.kIn J e (fun z => nomatch z) fun tk => ⟨.bl b, H, I.kept (t' := tk) fun _ _ z => z, rfl, q⟩
  · obtain ⟨D, c, cv', b, ecls, C, rfl, hc, e, f⟩ := hx
    obtain ⟨v, w, rfl, r1, r2⟩ := rvs2 rv
    cases r1
    cases r2
    refine ⟨D, c, cv', b, ecls, C, rfl, fun u hu => ?_, e, cv.at rh (.d (.bl b)) f⟩
    rcases hc with ⟨C', rfl, rfl⟩ | ⟨T, rfl, rfl⟩ <;> exact hu
theorem kisF (K : PySem.W.Frag) {X : Cx} {k : Nat} {a : Addr} {cls : Value} (B : BxF X k a cls) (hK : X.K = K := by rfl) : CallD X (.builtin "isinstance") (xIsE K a cls) := by
  subst hK; exact cd_isF B
/-! ### in the suite -/
section
variable {X : Cx} {x p : Str} {k : Nat} {f a : Addr} {fd : FuncData} {de : DEx} {cls : Value} {fs : List (Str × Y)} {arg e : Expr} {t : TA} {te : TE} {q pos : Pos} {n : Str}
theorem pe_hotF (F : FnF X.prog X.w X.K X.mg X.base k f fd p de) (hr : L2H.RoomH k X.A) (hgd : X.A.guards = some []) (hP : PinE X.K X.pn a cls fs) (hg : Gl X x) (hm : X.mg x = some (.ref f))
    (hk : PySem.W.keepIn X.K (.ref f) = true) (hb : Binds X.K fd [p] []) (tk : Takes X W0) (ha : PA X [arg] t) (hdb : (x == ("__debug__" : Str)) = false := by decide) (he : starEach [arg] X.env = (false, eval arg X.env) :: starEach [] X.env := by rfl) :
    PE X (.Call (.Name x q) [arg] [] pos) (fun σ H Q => t σ H fun vs H1 => vs = [.ref a] ∧ ∃ G m F', Rh X.K G m H1 ∧ de cls m F' ∧ CvE X.K G F' Q) := by
  refine ⟨fun pins s σ H Q I h => ?_⟩
  refine wpAny_Call_Name_kw (ld_glob I hg hm ?_ hdb)
  refine PySem.W.callWith_K (h₀ := X.base) I.ok.mod.kin hk (thn (ha.run pos pins s σ H _ I h) fun us s1 ⟨vs, H1, I1, r, e, q⟩ => ⟨I1.kIn, ?_⟩) he rfl
  subst e
  obtain ⟨u, rfl, ru⟩ := r.one
  cases ru
  have b := hb s1 [.ref a] I1.kIn rfl
  refine wpAny_call (codeAny_mono (F.run X.A X.stack s1 H1 ⟨[.ref a], []⟩ Q a cls fs X.pn hgd hr (fun q hq => ?_) hP I1.env0 b q) fun y s' hq => ?_)
  · have P1 := I1.pin q (List.mem_append_left _ hq)
    exact ⟨P1.1, P1.2.1, fun hm => (List.mem_cons.mp (I1.stkSub q.1 hm)).elim P1.2.2.1 P1.2.2.2.1, P1.2.2.2.2⟩
  match y, hq with
  | .error e, hq => exact passAt (W := W0) tk σ pins H1 s1 e s' I1 hq
  | .ok (.ret u), hq => exact I1.after hq
  | .ok .next, hq => exact False.elim hq
  | .ok .brk, hq => exact False.elim hq
  | .ok .cont, hq => exact False.elim hq
theorem pe_xfP {C : Addr} (T : XfC X.K C) (hno : PySem.W.findIn X.K (.ref C) n = some none) (hP : PinE X.K X.pn a (.ref C) fs) (he : PE X e te) (hb : attributeBase e n X.env (eval e X.env) = eval e X.env := by rfl) :
    PE X (.Attribute e n pos) (fun σ H Q => te σ H fun x H1 => x = .ref a ∧ ∃ i, fs.lookup n = some (.d (.int i)) ∧ Q (.int i) H1) := by
  refine ⟨fun pins s σ H Q I h => ?_⟩
  refine attr_of hb (thn (he.run pins s σ H _ I h) fun u s1 hh => ?_)
  obtain ⟨x, H1, I1, rx, ex, i, l, q⟩ := hh
  subst ex
  obtain rfl : u = Value.ref a := rx
  obtain ⟨oe, od, J, hf⟩ := pinE_inst (h := s1.heap) hP fun q hq => (I1.pin q (List.mem_append_left _ hq)).1
  obtain ⟨o, u, rfl, hu, ru⟩ := hf n i l
  exact PySem.HandSPX.exc_get I1.kIn J T.ga T.gg T.exC (PySem.W.findObj_own T.hdC hno rfl hu) (handed_of ru) ⟨.int i, H1, I1.tok _, ru, q⟩
end
end Dl
/-! D36: several except clauses that name the exception; try: call() except L as e: return (word(e), e.f) except E as e: return (word(e), None). -/
namespace Dl
open PySem PySem.Spec PyProof.Rows L2 Evl

/-- the ends behind a suite whose name at i goes -/
def endsA (i : Nat) (D : Ends) : Ends := { nx := fun σ' H' => D.nx (σ'.set i none) H', rt := D.rt, bk := fun σ' H' => D.bk (σ'.set i none) H', ct := fun σ' H' => D.ct (σ'.set i none) H' }
abbrev Cls2 := List (Value × (Addr → Value → Option Addr → TS))
def wManyA (K : PySem.W.Frag) (i : Nat) (Wout : WX) (D : Ends) : Cls2 → WX
  | [] => Wout
  | p :: r => fun cls d σ H => ∃ b, PySem.W.exmOne K cls p.1 = some b ∧ (b = true → ∀ a, H a = none → p.2 a cls d (endsA i D) (σ.set i (some (.ref a))) H) ∧ (b = false → wManyA K i Wout D r cls d σ H)
inductive HdsA (X : Cx) (n : Str) : List ExceptHandler → Cls2 → Prop
  | nil : HdsA X n [] []
  | cons {x : Str} {c : Value} {ts : Addr → Value → Option Addr → TS} {b₀ : Stmt} {suite : List Stmt} {np pos' : Pos} {hds : List ExceptHandler} {l : Cls2} (hc : Names X x c)
      (hsu : ∀ (a : Addr) (oe : Obj) (cls : Value) (d : Option Addr) (pn : List (Addr × Obj)), Zc cls d oe → (∃ vs, oe.data = .fields vs) → PSs (X.suite a ((a, oe) :: pn)) (b₀ :: suite) (ts a cls d)) (r : HdsA X n hds l) :
      HdsA X n (.ExceptHandler (some (.Name x np)) (some n) (b₀ :: suite) pos' :: hds) ((c, ts) :: l)
section
variable {X : Cx} {n : Str} {i : Nat} {body : List Stmt} {h₀ : ExceptHandler} {hds : List ExceptHandler} {l : Cls2} {pos : Pos} {tb : WX → TS} {Wout : WX}
theorem ps_try_manyA (hs : X.stack = X.env :: X.outer) (hf : X.env.frame = some X.env.locals) (hN : X.N.Nodup) (hi : X.N[i]? = some n) (hln : X.env.kindOf n = some .local) (tk : Takes X Wout)
    (hb : ∀ (W : WX) (pn : List (Addr × Obj)) (xe : Value → Shared → Prop), Takes (X.tr pn xe) W → PassesOwn (model X.prog X.w) X.A X.env xe → PSs (X.tr pn xe) body (tb W))
    (hh : HdsA X n (h₀ :: hds) l) : PS X (.Try body (h₀ :: hds) [] [] pos) (fun D σ H => tb (wManyA X.K i Wout D l) D σ H) := by
  refine ⟨fun pins s σ H D I h => ?_⟩
  have ok := I.ok
  have hfr : X.A.frames = some (X.env :: X.outer) := by rw [ok.frames, hs]
  have hloc : Loc X.env.scope n := .inl hln
  refine wpAny_Try_except (wpAny_mono ((hb (wManyA X.K i Wout D l) (X.pn ++ pins) (fun e s₁ => wpAny (model X.prog X.w) X.A (noteFrame e X.env) (fun _ s₂ => wpAny (model X.prog X.w) X.A (setFlight e none) (fun _ s₃ =>
    wpAny (model X.prog X.w) X.A (handleBy e X.env (h₀ :: hds)) (SP X pins D) X.xe s₃) X.xe s₂) X.xe s₁) (fun u s' xx => ?_) PassesOwn.looking).run [] s σ H D (I.toTry _) h) (fun f s1 hsp => ?_) (fun e s1 he => he))
  · obtain ⟨a, B, sI, pins', σ', H', cls, d, rfl, J', nb, up, sky, na, os, ag, w⟩ := xx
    have J : Inv X pins σ' H' sI := J'.ofTry ok
    have sky' : Sky B (X.env :: X.outer) a (Zc cls d) X.env.locals s'.heap := by rw [← hs]; exact sky
    show wpAny (model X.prog X.w) X.A (noteFrame (.ref a) X.env) _ _ _
    refine Sky.land Zc.steady hfr hf sky' fun h3 fl3 up3 => ?_
    have J3 : Inv X pins σ' H' { s' with heap := h3 } := J.landed nb fl3.1 (up.trans up3) os ag
    obtain ⟨oe3, vs3, he3, hz3, hd3⟩ := fl3.there
    have nfr : a ∉ frs (X.env :: X.outer) := fun hm => by
      obtain ⟨_, o', e', hnf⟩ := fl3.2.2.1.mem hm
      rw [he3] at e'
      cases e'
      exact hnf _ hd3
    have nL : a ≠ X.env.locals := fun z => nfr (List.mem_filterMap.mpr ⟨X.env, List.mem_cons_self, by rw [hf, z]⟩)
    have nF : a ∉ X.fs := fun hm => by
      obtain ⟨e, he, q⟩ := List.mem_filterMap.mp hm
      exact nfr (List.mem_filterMap.mpr ⟨e, List.mem_cons_of_mem _ he, q⟩)
    have S3 := J3.suite he3 hd3 na nL nF
    have LT : PySem.W.Looks (model X.prog X.w) h3 (typeOf (.ref a)) cls := fun A Q E s k q => wpAny_typeOf_ref (k _ _ he3) (by rw [hz3.1]; exact q)
    have go : ∀ {hds' : List ExceptHandler} {l' : Cls2}, HdsA X n hds' l' → wManyA X.K i Wout D l' cls d σ' H' → wpAny (model X.prog X.w) X.A (handleBy (.ref a) X.env hds') (SP X pins D) X.xe { s' with heap := h3 } := by
      intro hds' l' hk
      induction hk with
      | nil =>
        intro w
        refine wpAny_handleBy_nil ?_
        obtain ⟨k1, k2, k3, oe, vs, T, oT, ts', he, hz, hd, h1, hr⟩ := id fl3
        unfold PySem.passOn
        refine wpAny_bind (wpAny_field he hd h1 ?_)
        rw [if_neg (show ¬ ((Value.ref T == Value.none) = true) from by simp)]
        have fin : wpAny (model X.prog X.w) X.A (setFlight (.ref a) X.env.frame) (fun _ s4 => wpAny (model X.prog X.w) X.A (throw (.ref a) : Sem Flow) (SP X pins D) X.xe s4) X.xe { s' with heap := h3 } := by
          rw [hf]
          exact HandSPX.setFlight_upZ fl3 fun h4 hh4 up4 => wpAny_throw (tk _ _ ⟨a, B, sI, pins, σ', H', cls, d, rfl, J, nb, (up.trans up3).trans up4, .inr (.inr (by rw [hs]; exact hh4)), na, os, ag, w⟩)
        first
          | exact wpAny_bind (wpAny_pure (wpAny_bind fin))
          | exact wpAny_bind fin
      | @cons x c ts b₀ suite np pos' hds2 l2 hc hsu r ih =>
        intro w
        obtain ⟨b, hb1, hyes, hno⟩ := w
        refine wpAny_handleBy_cons (codeAny_handlers_test ?_) (by intro q; cases q)
        have LM := PySem.W.exm_one (M := model X.prog X.w) (J3.kIn) LT hb1
        have test : ∀ {Q : Value → Shared → Prop} {E : Value → Shared → Prop}, Q c { s' with heap := h3 } → wpAny (model X.prog X.w) (X.A.mark (some (.ref a))) (eval (.Name x np) X.env) Q E { s' with heap := h3 } := fun {Q E} q => by
          obtain ⟨hg, hdbg, hm | ⟨hm, hv, hnn⟩⟩ := hc
          · exact ld_glob (X := X.suite a ((a, oe3) :: (X.pn ++ pins))) S3 hg hm q hdbg
          · exact ld_blt (X := X.suite a ((a, oe3) :: (X.pn ++ pins))) S3 hg hm hv q hnn hdbg
        refine test (LM.here ?_)
        cases b with
        | false =>
          show wpAny _ X.A (handleBy (.ref a) X.env hds2) _ _ _
          exact ih (hno rfl)
        | true =>
          refine codeAny_handlers_suite_as (HandSPX.lands_againZ fl3 fun h4 fl4 up4 => ?_)
          have J4 : Inv X pins σ' H' { s' with heap := h4 } := J.landed nb fl4.1 ((up.trans up3).trans up4) os ag
          obtain ⟨oe4, vs4, he4, hz4, hd4⟩ := fl4.there
          have S4 := J4.suite he4 hd4 na nL nF
          refine store_ok (X := X.suite a ((a, oe4) :: (X.pn ++ pins))) (v := .ref a) S4 hN hi hloc rfl (fun s5 S5 => ?_) (.inr hln)
          refine wpAny_mono ((hsu a oe4 cls d (X.pn ++ pins) hz4 ⟨_, hd4⟩).run [] s5 _ H' _ S5 (hyes rfl a na)) (fun f s6 hsp => ?_) (fun _ _ z => False.elim z)
          cases f with
          | next =>
            obtain ⟨σ6, H6, S6, q6⟩ := hsp
            exact gone_ok (S6.unsuite ok) hN hi hln fun s7 J7 => ⟨_, _, J7, q6⟩
          | brk =>
            obtain ⟨σ6, H6, S6, q6⟩ := hsp
            exact gone_ok (S6.unsuite ok) hN hi hln fun s7 J7 => ⟨_, _, J7, q6⟩
          | cont =>
            obtain ⟨σ6, H6, S6, q6⟩ := hsp
            exact gone_ok (S6.unsuite ok) hN hi hln fun s7 J7 => ⟨_, _, J7, q6⟩
          | ret u =>
            obtain ⟨v6, σ6, H6, S6, r6, q6⟩ := hsp
            exact gone_ok (S6.unsuite ok) hN hi hln fun s7 J7 => ⟨_, _, _, J7, r6, q6⟩
    exact go hh w
  · cases f with
    | next =>
      obtain ⟨σ', H', J', q⟩ := hsp
      exact wpAny_execs_nil ⟨σ', H', J'.ofTry ok, q⟩
    | brk =>
      obtain ⟨σ', H', J', q⟩ := hsp
      exact ⟨σ', H', J'.ofTry ok, q⟩
    | cont =>
      obtain ⟨σ', H', J', q⟩ := hsp
      exact ⟨σ', H', J'.ofTry ok, q⟩
    | ret u =>
      obtain ⟨v, σ', H', J', r, q⟩ := hsp
      exact ⟨v, σ', H', J'.ofTry ok, r, q⟩
end
end Dl
/-! D37: try: call() except L as e: return (word(e), e.f) except E as e: return (word(e), None); return (x, None). -/
namespace Dl
open PySem PySem.Spec PyProof.Rows L2 Evl
theorem sp_try {X : Cx} {pn' pins : List (Addr × Obj)} {D : Ends} {fl : Flow} {s' : Shared} (ok : X.Ok) (hs : SP (X.tr (X.pn ++ pn') X.xe) [] D fl s') (hp : ∀ p ∈ pins, p ∈ pn') : SP X pins D fl s' := by
  have back : ∀ {σ H}, Inv (X.tr (X.pn ++ pn') X.xe) [] σ H s' → Inv X pins σ H s' := fun J => by
    have J2 : Inv X pn' _ _ s' := J.ofTry ok
    exact ⟨ok, J2.os, J2.bare, J2.base, J2.loc, J2.cell, J2.free, J2.freeC, fun p h => J2.pin p (by
      rcases List.mem_append.mp h with h | h
      · exact List.mem_append_left _ h
      · exact List.mem_append_right _ (hp p h)), J2.hok, J2.len⟩
  cases fl with
  | next =>
    obtain ⟨σ', H', J', q⟩ := hs
    exact ⟨σ', H', back J', q⟩
  | brk =>
    obtain ⟨σ', H', J', q⟩ := hs
    exact ⟨σ', H', back J', q⟩
  | cont =>
    obtain ⟨σ', H', J', q⟩ := hs
    exact ⟨σ', H', back J', q⟩
  | ret u =>
    obtain ⟨v, σ', H', J', r, q⟩ := hs
    exact ⟨v, σ', H', back J', r, q⟩
theorem set_at {i : Nat} {τ : L2.St} {b : Addr} (h : ∃ τ0 : L2.St, τ = τ0.set i (some (V.ref b))) (hl : i < τ.length) : τ[i]? = some (some (V.ref b)) := by
  obtain ⟨τ0, rfl⟩ := h
  rw [List.length_set] at hl
  rw [List.getElem?_set_self (by omega)]
abbrev d_lim (K : PySem.W.Frag) (CL CE : Addr) (fld x0 : Str) (de : DEx) : XTh → XTh := fun tl m F P => tl m (fun _ m1 => F (.d (.tuple [.str x0, .none])) m1) (fun cls fs m1 => ∃ b, PySem.W.exmOne K cls (.ref CL) = some b ∧
  (b = true → cls = .ref CL ∧ ∃ i, fs.lookup fld = some (.d (.int i)) ∧ de cls m1 (fun y m2 => ∃ d, y = .d d ∧ F (.d (.tuple [d, .int i])) m2)) ∧
  (b = false → PySem.W.exmOne K cls (.ref CE) = some true ∧ fs = [] ∧ de cls m1 (fun y m2 => ∃ d, y = .d d ∧ F (.d (.tuple [d, .none])) m2)))
theorem lim_gives {pr : Program} {w : World} {K : PySem.W.Frag} {mg : Str → Option Value} {base : Heap} {N : List Str} {x a l e n wf pw fld x0 : Str} {sc : Scope} {g CL CE fw : Addr} {fdw : FuncData} {k : Nat} {cd : Value} {i j1 j2 j3 : Nat} {de : DEx} {x1 x2 x3 : _}
    {p1 p2 p3 p4 p5 p6 p7 p8 p9 p10 p11 p12 p13 p14 p15 p16 p17 p18 p19 p20 p21 p22 p23 p24 p25 : Pos} (S : FnScope N [a] sc) (hgl : sc.names.lookup l = some .globalImplicit) (hml : mg l = some (.ref CL)) (hdl : (l == ("__debug__" : Str)) = false) (hge : sc.names.lookup e = some .globalImplicit) (hme : mg e = some (.ref CE)) (hde : (e == ("__debug__" : Str)) = false)
    (hi : N[i]? = some n) (hil : i < N.length) (hn : sc.names.lookup n = some .local) (hnd : (n == ("__debug__" : Str)) = false) (hnc : (n == ("__classdict__" : Str)) = false)
    (h0 : ∀ f : Addr, (L2.start N [V.ref f])[0]? = some (some (V.ref f))) (FW : FnF pr w K mg base k fw fdw pw de) (hgw : sc.names.lookup wf = some .globalImplicit) (hmw : mg wf = some (.ref fw)) (hkw : PySem.W.keepIn K (.ref fw) = true) (hbw : Binds K fdw [pw] []) (hdw : (wf == ("__debug__" : Str)) = false)
    (XC : XfC K CL) (hno : PySem.W.findIn K (.ref CL) fld = some none)
    (X : Cx) (y1 : X.prog = pr) (y2 : X.w = w) (y3 : X.K = K) (y4 : X.mg = mg) (y5 : X.base = base) (hat : ∀ env : Env, attributeBase (.Name n p8) fld env (eval (.Name n p8) env) = eval (.Name n p8) env := by intros; rfl) :
    GivesD X N x sc g cd [.Try [.Expr (.Call (.Name a p1) [] [] p2) p3] [.ExceptHandler (some (.Name l p4)) (some n) [.Return (some (.Tuple [.Call (.Name wf p5) [.Name n p6] [] p7, .Attribute (.Name n p8) fld p9] x1 p10)) p11] p12,
      .ExceptHandler (some (.Name e p13)) (some n) [.Return (some (.Tuple [.Call (.Name wf p14) [.Name n p15] [] p16, .Constant .none j1 p17] x2 p18)) p19] p20] [] [] p21, .Return (some (.Tuple [.Constant (.str x0) j2 p22, .Constant .none j3 p23] x3 p24)) p25] a k (d_lim K CL CE fld x0 de) := by
  subst y1 y2 y3 y4 y5
  intro f s H G m F P Q E tl hgd hr act rh hx cv cx
  have hnm1 : Names (cxG X N x sc g cd s H E) l (.ref CL) := ⟨hgl, hdl, .inl hml⟩
  have hnm2 : Names (cxG X N x sc g cd s H E) e (.ref CE) := ⟨hge, hde, .inl hme⟩
  have last : PS (cxG X N x sc g cd s H E) (.Return (some (.Tuple [.Constant (.str x0) j2 p22, .Constant .none j3 p23] x3 p24)) p25) _ := ps_ret (pe_tup (pa_cons pe_str (pa_cons pe_non pa_nil)))
  refine ⟨_, pss_cons (ps_try_manyA (X := cxG X N x sc g cd s H E) (i := i) (Wout := WE1 E)
    (tb := fun W' D τ Hz => ∃ Ec : XK, (∀ cls d σ' H', Ec cls d H' → W' cls d σ' H') ∧ τ[0]? = some (some (.ref f)) ∧ ∃ G1 m1 F1 P1, Ex G G1 ∧ Rh X.K G1 m1 Hz ∧ tl m1 F1 P1 ∧ CvE X.K G1 F1 (fun v H1 => D.nx τ H1) ∧ CvX X.K G1 P1 Ec)
    rfl rfl S.nd hi hn (takes_of rfl rfl rfl rfl) (fun W' pn xe tk' _ => ?_)
    (.cons (ts := fun b cls d D τ Hz => (∃ τ0 : L2.St, τ = τ0.set i (some (.ref b))) ∧ cls = .ref CL ∧ ∃ dd vs fs i0 G1 m1 F1, d = some dd ∧ Hz dd = some (.xd vs) ∧ G1 dd = none ∧ RF X.K G1 vs fs ∧ fs.lookup fld = some (.d (.int i0)) ∧ Rh X.K G1 m1 Hz ∧ de cls m1 F1 ∧
        CvE X.K G1 F1 (fun v H1 => ∀ p, H1 p = none → D.rt (.ref p) (upd H1 p (.tup [v, .int i0])))) hnm1 (fun b oe cls d pn hz hf => ?_)
      (.cons (ts := fun b cls d D τ Hz => (∃ τ0 : L2.St, τ = τ0.set i (some (.ref b))) ∧ d = none ∧ ∃ G1 m1 F1, Rh X.K G1 m1 Hz ∧ de cls m1 F1 ∧ CvE X.K G1 F1 (fun v H1 => ∀ p, H1 p = none → D.rt (.ref p) (upd H1 p (.tup [v, .non])))) hnm2 (fun b oe cls d pn hz hf => ?_) .nil))) (pss_one last), ?_⟩
  · refine ⟨fun pz z τ Hz D J ⟨Ec, hW, z1, G1, m1, F1, P1, z2, z3, z4, z5, z6⟩ => ?_⟩
    have hc := act W' pn xe Ec p1 p2 tk' hW
    have hall := pss_one (ps_expr (pos := p3) hc)
    exact hall.run pz z τ Hz D J ⟨z1, G1, m1, F1, P1, z2, z3, z4, z5, z6⟩
  · refine ⟨fun pz z τ Hz D J ⟨z1, z2, dd, vs, fs, i0, G1, m1, F1, z3, z4, z5, z6, z7, z8, z9, z10⟩ => ?_⟩
    subst z2 z3
    have z1' := set_at z1 (by rw [J.len]; exact hil)
    obtain ⟨od, J2, hod⟩ := unxd J z4
    have J3 := J2.toTry ((cxG X N x sc g cd s H E).suite b ((b, oe) :: pn)).xe
    have hP : PinE X.K (((b, oe) :: pn) ++ ((dd, od) :: pz)) b (.ref CL) fs := ⟨oe, some dd, List.mem_append_left _ List.mem_cons_self, hz, hf, .inr ⟨dd, od, rfl, List.mem_append_right _ List.mem_cons_self, fun q i hq => by
      obtain ⟨u, hu, ru⟩ := RF.lookup z6 hq
      exact hod q i (by rw [hu, ru.int])⟩⟩
    have hv : ∀ p, PE (((cxG X N x sc g cd s H E).suite b ((b, oe) :: pn)).tr (((b, oe) :: pn) ++ ((dd, od) :: pz)) ((cxG X N x sc g cd s H E).suite b ((b, oe) :: pn)).xe) (.Name n p) (tVar i) := fun p => pe_var hi (.inl hn) hnd hnc
    have hro : L2H.RoomH k (((cxG X N x sc g cd s H E).suite b ((b, oe) :: pn)).tr (((b, oe) :: pn) ++ ((dd, od) :: pz)) ((cxG X N x sc g cd s H E).suite b ((b, oe) :: pn)).xe).A := ⟨hr.dp, hr.un⟩
    have hc := pe_hotF (X := ((cxG X N x sc g cd s H E).suite b ((b, oe) :: pn)).tr (((b, oe) :: pn) ++ ((dd, od) :: pz)) ((cxG X N x sc g cd s H E).suite b ((b, oe) :: pn)).xe) (q := p5) (pos := p7) FW hro hgd hP hgw hmw hkw hbw LamX.takes0 (pa_cons (hv p6) pa_nil) hdw
    have hf := pe_xfP (X := ((cxG X N x sc g cd s H E).suite b ((b, oe) :: pn)).tr (((b, oe) :: pn) ++ ((dd, od) :: pz)) ((cxG X N x sc g cd s H E).suite b ((b, oe) :: pn)).xe) (pos := p9) XC hno hP (hv p8) (hat _)
    have hall := pss_one (ps_ret (pos := p11) (pe_tup (x1 := x1) (pos := p10) (pa_cons hc (pa_cons hf pa_nil))))
    refine wpAny_mono (hall.run [] z τ _ D J3 ⟨.ref b, z1', rfl, G1, m1, F1, z8.unxd z4 z5, z9, fun v y G2 m2 H2 e2 rh2 rv2 q => ⟨.ref b, z1', rfl, i0, z7, by show 2 ≤ sizeLine; decide, z10 v y G2 m2 H2 e2 rh2 rv2 q⟩⟩) (fun fl s' hs => sp_try J.ok hs fun p hp => List.mem_cons_of_mem _ hp) fun _ _ q => q
  · refine ⟨fun pz z τ Hz D J ⟨z1, z2, G1, m1, F1, z3, z4, z5⟩ => ?_⟩
    subst z2
    have z1' := set_at z1 (by rw [J.len]; exact hil)
    have hP : PinE X.K ((b, oe) :: pn) b cls [] := ⟨oe, none, List.mem_cons_self, hz, hf, .inl ⟨rfl, rfl⟩⟩
    have hv : PE ((cxG X N x sc g cd s H E).suite b ((b, oe) :: pn)) (.Name n p15) (tVar i) := pe_var hi (.inl hn) hnd hnc
    have hro : L2H.RoomH k ((cxG X N x sc g cd s H E).suite b ((b, oe) :: pn)).A := ⟨hr.dp, hr.un⟩
    have hc := pe_hotF (X := (cxG X N x sc g cd s H E).suite b ((b, oe) :: pn)) (q := p14) (pos := p16) FW hro hgd hP hgw hmw hkw hbw LamX.takes0 (pa_cons hv pa_nil) hdw
    have hall := pss_one (ps_ret (pos := p19) (pe_tup (x1 := x2) (pos := p18) (pa_cons hc (pa_cons (pe_non (j := j1) (pos := p17)) pa_nil))))
    exact hall.run pz z τ Hz D J ⟨.ref b, z1', rfl, G1, m1, F1, z3, z4, fun v y G2 m2 H2 e2 rh2 rv2 q => ⟨by show 2 ≤ sizeLine; decide, z5 v y G2 m2 H2 e2 rh2 rv2 q⟩⟩
  · refine ⟨fun cls d H' => ∃ G1 m1 fs, Rh X.K G1 m1 H' ∧ Ex G G1 ∧ XF X.K G1 H' d fs ∧ ∃ b, PySem.W.exmOne X.K cls (.ref CL) = some b ∧
      (b = true → cls = .ref CL ∧ ∃ i, fs.lookup fld = some (.d (.int i)) ∧ de cls m1 (fun y m2 => ∃ d, y = .d d ∧ F (.d (.tuple [d, .int i])) m2)) ∧
      (b = false → PySem.W.exmOne X.K cls (.ref CE) = some true ∧ fs = [] ∧ de cls m1 (fun y m2 => ∃ d, y = .d d ∧ F (.d (.tuple [d, .none])) m2)), fun cls d σ' H' ⟨G1, m1, fs, w1, w2, w3, b, w4, w5, w6⟩ => ⟨b, w4, fun hb c _ => ?_, fun hb => ?_⟩,
      h0 f, G, m, _, _, Ex.refl G, rh, hx, fun v y G1 m1 H1 e1 rh1 rv1 q => ?_, fun cls d fs G1 m1 H1 e1 rh1 xf ⟨b, q1, q2, q3⟩ => ⟨G1, m1, fs, rh1, e1, xf, b, q1, q2, q3⟩⟩
    · obtain ⟨v1, i0, v2, v3⟩ := w5 hb
      rcases w3 with ⟨rfl, _⟩ | ⟨_, dd, vs, rfl, u1, u2, u3⟩
      · cases v2
      · exact ⟨⟨_, rfl⟩, v1, dd, vs, fs, i0, G1, m1, _, rfl, u1, u2, u3, v2, w1, v3, fun v y G2 m2 H2 e2 rh2 rv2 ⟨d, q1, q2⟩ p hp => by
          subst q1
          exact mkT_ok rh2 (.cons rv2 (.cons (.d (.int i0)) .nil)) hp q2 (cv.mono (w2.trans e2))⟩
    · obtain ⟨v1, v2, v3⟩ := w6 hb
      refine ⟨true, v1, fun _ c _ => ⟨⟨_, rfl⟩, ?_, G1, m1, _, w1, v3, fun v y G2 m2 H2 e2 rh2 rv2 ⟨d, q1, q2⟩ p hp => by
          subst q1
          exact mkT_ok rh2 (.cons rv2 (.cons (.d .non) .nil)) hp q2 (cv.mono (w2.trans e2))⟩, fun z => nomatch z⟩
      rcases w3 with ⟨_, h⟩ | ⟨h, _⟩
      · exact h
      · exact absurd v2 h
    · exact ⟨by show 2 ≤ sizeLine; decide, fun p hp => mkT_ok rh1 (.cons (.d (.str x0)) (.cons (.d .non) .nil)) hp q (cv.mono e1)⟩
end Dl
/-! D38: list * n. -/
namespace Dl
open PySem PySem.Spec PyProof.Rows L2 Evl
section
variable {X : Cx}
abbrev rRepL : R2 := fun x y H Q => ∃ l k xs, x = .ref l ∧ y = .int k ∧ Rd H l (.lst xs) ∧ 0 ≤ k ∧ k ≤ 1000 ∧ xs.length ≤ 10 ∧ ∀ p, H p = none → Q (.ref p) (upd H p (.lst (List.replicate k.toNat xs).flatten))
theorem op_repL : OpR X (binaryOp .Mult) rRepL := by
  intro ps s τ H x y v u Q I rx ry want
  obtain ⟨l, k, xs, rfl, rfl, hR, k0, k1, hl, q⟩ := want
  cases rx
  obtain ⟨t, rfl⟩ := ry
  obtain ⟨_, its, n, r, ho⟩ := rd_lst I hR
  have hsz : its.toArray.size * k.toNat ≤ sizeLine := by
    rw [List.size_toArray, ← r.length]
    have a : xs.length * k.toNat ≤ 10 * 1000 := Nat.mul_le_mul hl (by omega)
    exact Nat.le_trans a (by decide)
  have c1 : ¬ its.toArray.size * k.toNat > (2 ^ 63 - 1) / 8 := by
    have : (sizeLine : Nat) ≤ (2 ^ 63 - 1) / 8 := by decide
    omega
  have c2 : ¬ (!Builtin.List.listFitsIndex k) = true := by
    rw [fitsIndex_both (by omega) (by omega)]
    exact Bool.false_ne_true
  have c3 : ¬ Builtin.List.listTooLong (its.toArray.size * k.toNat) = true := by
    rw [notLongL hsz]
    exact Bool.false_ne_true
  have enew : List.foldl (fun x1 x2 => x1 ++ x2) #[] (List.replicate (if its.toArray.isEmpty = true then 0 else k.toNat) its.toArray) = (List.replicate k.toNat its).flatten.toArray := by
    have e0 : ∀ j : Nat, List.foldl (fun x1 x2 => x1 ++ x2) #[] (List.replicate j its.toArray) = (List.replicate j its).flatten.toArray := fun j => by
      have z := foldl_rep its j []
      rwa [List.nil_append] at z
    rw [e0]
    cases its with
    | nil => simp
    | cons a b => rw [if_neg (by simp)]
  refine wpAny_binaryOp_repeat_ref (T := "list") (U := "int") (by decide) ⟨_, ho, rfl⟩ (fun s' => typeIs_int s' k t) noFill_list_mul F.fills_int_mul F.slot_int_rmul repeat_list F.slot_int_index.lookup
    (call_meets F.slot_int_rmul (typeIs_int s k t) F.entry_int_rmul (F.args_int_rmul_2 _ _) (int___rmul___int_list k t l its.toArray n)
      ⟨ho, rfl, ⟨_, ho, rfl⟩, call_meets F.slot_list_mul ⟨_, ho, rfl⟩ F.entry_list_mul (F.args_list_mul_2 _ _) (AutoListH.list___mul___list_int_3 l its.toArray n k t c2 c1 c3) ⟨ho, ?_⟩⟩)
  rw [enew]
  exact ⟨.ref _, _, I.lnew (t' := s.toks) (r.rep k.toNat) (by rw [PyProof.Rows.lm_len_rep_flat, Nat.mul_comm, r.length, ← List.size_toArray]; exact hsz), rfl, q _ I.fresh⟩
abbrev xRepL : XR := fun y z m F => ∃ ds k, y = .d (.list ds) ∧ z = .d (.int k) ∧ 0 ≤ k ∧ k ≤ 1000 ∧ ds.length ≤ 10 ∧ F (.d (.list (List.replicate k.toNat ds).flatten)) m
theorem opd_repL : OpD X (binaryOp .Mult) xRepL := by
  refine ⟨_, op_repL, fun {G m H v w y z F Q} rh rv rw hx cv => ?_⟩
  obtain ⟨ds, k, rfl, rfl, k0, k1, hl, f⟩ := hx
  cases rw.int
  obtain ⟨p, vs, rfl, s1, q1⟩ := lsY_ok (y := .d (.list ds)) (ys := ds.map Y.d) rh rv rfl
  refine ⟨p, k, vs, rfl, rfl, s1, k0, k1, by rw [q1.length, List.length_map]; exact hl, fun q hq => ?_⟩
  have rp : ∀ n : Nat, RVs X.K G (List.replicate n vs).flatten ((List.replicate n ds).flatten.map Y.d) := fun n => by
    induction n with
    | zero => exact .nil
    | succ n ih =>
      rw [List.replicate_succ, List.replicate_succ, List.flatten_cons, List.flatten_cons, List.map_append]
      exact q1.app ih
  exact lstD_ok rh (rp k.toNat) hq f cv
end
end Dl
/-! D39: keyword arguments of methods and constructors. -/
namespace Dl
open PySem PySem.Spec PyProof.Rows L2 Evl

/-- the parameters' values: where each stands among the values that are given -/
def pickL {α : Type} (ix : List Nat) (xs : List α) : List α := ix.filterMap fun i => xs[i]?
theorem vals_none {vs : List V} {us : List Value} (r : Vals vs us) {i : Nat} (h : vs[i]? = none) : us[i]? = none := by
  rw [List.getElem?_eq_none_iff] at h ⊢
  rw [← r.length]; exact h
theorem pick_rel {vs : List V} {us : List Value} (r : Vals vs us) : ∀ ix : List Nat, Vals (pickL ix vs) (pickL ix us)
  | [] => .nil
  | i :: ix => by
    unfold pickL
    rw [List.filterMap_cons, List.filterMap_cons]
    cases h : vs[i]? with
    | none =>
      rw [vals_none r h]
      exact pick_rel r ix
    | some v =>
      obtain ⟨u, hu, ru⟩ := r.get h
      rw [hu]
      exact .cons ru (pick_rel r ix)
theorem pick_rvs {K : PySem.W.Frag} {G : Hp} {vs : List V} {ys : List Y} (r : RVs K G vs ys) : ∀ ix : List Nat, RVs K G (pickL ix vs) (pickL ix ys)
  | [] => .nil
  | i :: ix => by
    unfold pickL
    rw [List.filterMap_cons, List.filterMap_cons]
    cases h : ys[i]? with
    | none =>
      have e : vs[i]? = none := by
        rw [List.getElem?_eq_none_iff] at h ⊢
        rw [r.length]; exact h
      rw [e]
      exact pick_rvs r ix
    | some y =>
      obtain ⟨v, hv, rv⟩ := RVs.get r h
      rw [hv]
      exact .cons rv (pick_rvs r ix)
structure KwB (fd : FuncData) (ps ks : List Str) (n : Nat) (ix : List Nat) : Prop where
  to : ∀ (s : Shared) (us ws : List Value), us.length = n → ws.length = ks.length → BindsTo s fd ⟨us, ks.zip ws⟩ (ps.zip (pickL ix (us ++ ws)))
  len : ∀ us ws : List Value, us.length = n → ws.length = ks.length → (pickL ix (us ++ ws)).length = ps.length
section
variable {K : PySem.W.Frag} {x qual : Str} {st : Stmt} {f : Addr} {fd : FuncData} {ps ks : List Str} {n : Nat} {ix : List Nat}
theorem Fun.kwb (F : Fun K x qual st f fd) (h : ∀ (kV doc pm : Value) (an : Option Addr) (cdv ct : Value) (us ws : List Value), us.length = n → ws.length = ks.length → bindArgs (PySem.W.fnOf x qual (defArgs st) (defBody st) (defScope st) .none kV doc pm an cdv ct) ⟨us, ks.zip ws⟩ = pure (ps.zip (pickL ix (us ++ ws))))
    (hl : ∀ us ws : List Value, us.length = n → ws.length = ks.length → (pickL ix (us ++ ws)).length = ps.length) : KwB fd ps ks n ix := by
  obtain ⟨oc, od, kV, doc, pm, an, cdv, ct, osl, rfl, _, _⟩ := F.ex
  exact ⟨fun s us ws h1 h2 => .of_eq (h _ _ _ _ _ _ us ws h1 h2), hl⟩
theorem SFun.kwb {P : Program} {cc D : Addr} {cdv : Value} (F : SFun P K x qual st f fd cdv cc D) (h : ∀ (kV doc pm : Value) (an : Option Addr) (ct : Value) (us ws : List Value), us.length = n → ws.length = ks.length → bindArgs (PySem.W.ksFn x qual (defArgs st) (defBody st) (defScope st) .none kV doc pm an cdv ct cc) ⟨us, ks.zip ws⟩ = pure (ps.zip (pickL ix (us ++ ws))))
    (hl : ∀ us ws : List Value, us.length = n → ws.length = ks.length → (pickL ix (us ++ ws)).length = ps.length) : KwB fd ps ks n ix := by
  obtain ⟨oc, od, kV, doc, pm, an, ct, osl, rfl, _, _⟩ := F.ex
  exact ⟨fun s us ws h1 h2 => .of_eq (h _ _ _ _ _ us ws h1 h2), hl⟩
end
def SK (X : Cx) (kws : List Keyword) : TA := fun σ H Q => ∀ (pos : Pos) (pins : List (Addr × Obj)) (s : Shared), Inv X pins σ H s → wpAny (model X.prog X.w) X.A (evalAll ((backToKw pos (keywordEach kws X.env)).map (·.2))) (AP X pins σ Q) X.xe s
structure DK (X : Cx) (W : WX) (kws : List Keyword) (t : XA) : Prop where
  run : ∀ {G : Hp} {r : Ro} {m : Mu} {σ : L2.St} {H : Hp} {F : List Y → Mu → Prop} {P : XP} {Q : List V → Hp → Prop}, Rs X.K G σ r → Rh X.K G m H → t r m F P → CvA X.K G F Q → CvX X.K G P (WEx W σ) → SK X kws σ H Q
section
variable {X : Cx} {W : WX} {e o : Expr} {es : List Expr} {kws : List Keyword} {te ta : XE} {t tk : XA} {nm : Option Str} {kpos p pos apos : Pos} {σ : L2.St} {H : Hp}
theorem sk_pk : PK X kws (SK X kws) := ⟨fun pos pins s _ _ _ I h => h pos pins s I⟩
theorem sk_of {u : TA} {Q : List V → Hp → Prop} (h : PK X kws u) (q : u σ H Q) : SK X kws σ H Q := fun pos pins s I => h.run pos pins s σ H Q I q
theorem dk_nil : DK X W [] xNil := ⟨fun {G r m σ H F P Q} rs rh hx cv _ => sk_of pk_nil (cv [] [] G m H (Ex.refl G) rh .nil hx)⟩
theorem dk_cons (ha : DE X W e te) (hr : DK X W kws t) : DK X W (⟨nm, e, kpos⟩ :: kws) (xCons te t) := ⟨fun {G r m σ H F P Q} rs rh hx cv cx => sk_of (pk_cons se_pe sk_pk) (ha.run rs rh hx (fun v y G1 m1 H1 e1 rh1 rv1 h1 =>
    hr.run (rs.mono e1) rh1 h1 (fun vs ys G2 m2 H2 e2 rh2 rv2 h2 => cv (v :: vs) (y :: ys) G2 m2 H2 (e1.trans e2) rh2 (.cons (rv1.mono e2) rv2) h2) (cx.mono e1)) cx)⟩
variable {k j n : Nat} {f C : Addr} {fd : FuncData} {ps ks : List Str} {d : DSp} {ix : List Nat} {x mn : Str}
theorem run_dk {pins : List (Addr × Obj)} {s : Shared} {Q : VK} {us ws : List Value} {vs zs : List V} (F : FnD X.prog X.w X.K X.mg X.base k f fd ps d) (hr : Room k X.A) (hg : X.A.guards = some []) (hb : KwB fd ps ks n ix)
    (tk : Takes X W) (I : Inv X pins σ H s) (r : Vals vs us) (rz : Vals zs ws) (l1 : us.length = n) (l2 : ws.length = ks.length) (h : cz X.K d (pickL ix (vs ++ zs)) H Q (WEx W σ)) : wpAny (model X.prog X.w) X.A (call (.ref f) us (ks.zip ws)) (EP X pins σ Q) X.xe s := by
  have rr := pick_rel (r.append rz) ix
  refine wpAny_call (codeAny_mono (F.run X.A X.stack s H ⟨us, ks.zip ws⟩ (pickL ix (us ++ ws)) (pickL ix (vs ++ zs)) Q (WEx W σ) hg hr I.env0 (hb.to s us ws l1 l2) rr h) fun z s' hq => ?_)
  match z, hq with
  | .error e, hq => exact passAt tk σ pins H s e s' I hq
  | .ok (.ret u), hq => exact I.after hq
  | .ok .next, hq => exact False.elim hq
  | .ok .brk, hq => exact False.elim hq
  | .ok .cont, hq => exact False.elim hq
/-- o.m(.., k = v, ..) -/
abbrev xMethK (C : Addr) (mn : Str) (d : DSp) (n : Nat) (ks : List Str) (ix : List Nat) (ta : XE) (t tk : XA) : XE := fun r m F P => ta r m (fun y m1 => ∃ a dx gs, y = .l a ∧ m1 a = some (.ins C dx gs) ∧ gs.lookup mn = none ∧
  t r m1 (fun ys m2 => tk r m2 (fun zs m3 => (Y.l a :: ys).length = n ∧ zs.length = ks.length ∧ d (pickL ix ((.l a :: ys) ++ zs)) m3 F P) P) P) P
theorem de_methK {pl : Sem Bool} (he : DE X W o ta) (M : MF X.prog X.w X.K X.mg X.base C mn k f fd ps d) (hr : Room j X.A) (hgd : X.A.guards = some []) (tk' : Takes X W) (hb : KwB fd ps ks n ix) (ha : DA X W es t) (hkw : DK X W kws tk) (hk : k ≤ j := by decide)
    (hcw : ∀ (Q : Value → Shared → Prop) (E : Value → Shared → Prop) (a : Addr) (s : Shared), X.K.In s.heap → wpAny (model X.prog X.w) X.A (spliced (backTo pos (starEach es X.env))) (fun us s1 => wpAny (model X.prog X.w) X.A (evalAll ((backToKw pos (keywordEach kws X.env)).map (·.2)))
      (fun ws s2 => X.K.In s2.heap ∧ wpAny (model X.prog X.w) X.A (call (.ref f) ([.ref a] ++ us) (ks.zip ws)) Q E s2) E s1) E s → wpAny (model X.prog X.w) X.A (callWith pos (.ref f) [.ref a] (backTo pos (starEach es X.env)) (backToKw pos (keywordEach kws X.env))) Q E s)
    (ht : eval (.Call (.Attribute o mn apos) es kws pos) X.env = (eval o X.env >>= fun ov => standAt apos.atName >>= fun _ => holding [ov] (getMethod ov mn pl) >>= fun z =>
      callWith pos z.1 z.2 (backTo pos (starEach es X.env)) (backToKw pos (keywordEach kws X.env))) := by rfl) :
    DE X W (.Call (.Attribute o mn apos) es kws pos) (xMethK C mn d n ks ix ta t tk) := ⟨fun {G r m σ H F' P Q} rs rh hx cv cx => fun pins s I => by
  have he' := he.run (Q := fun v H1 => ∃ a dx fs, v = V.ref a ∧ H1 a = some (.ins C dx fs) ∧ fs.lookup mn = none ∧ SA X es σ H1 fun vs H2 => SK X kws σ H2 fun zs H3 => (V.ref a :: vs).length = n ∧ zs.length = ks.length ∧ cz X.K d (pickL ix ((.ref a :: vs) ++ zs)) H3 Q (WEx W σ)) rs rh hx (fun v y G1 m1 H1 e1 rh1 rv1 q1 => by
    obtain ⟨a, dx, gs, rfl, hma, hl, q⟩ := q1
    obtain ⟨fs, hH, hf⟩ := rh1.ins hma
    cases rv1.loc
    exact ⟨a, dx, fs, rfl, hH, RF.lookup_none hf hl, ha.run (rs.mono e1) rh1 q (fun vs ys G2 m2 H2 e2 rh2 rv2 q2 => hkw.run ((rs.mono e1).mono e2) rh2 q2 (fun zs us G3 m3 H3 e3 rh3 rv3 ⟨q3, q4, q5⟩ => by
      have rr : RVs X.K G3 ((.ref a :: vs) ++ zs) ((.l a :: ys) ++ us) := (show RVs X.K G3 (.ref a :: vs) (.l a :: ys) from .cons (.l a) (rv2.mono e3)).app rv3
      refine ⟨by rw [← q3, List.length_cons, List.length_cons, rv2.length], by rw [rv3.length, q4], G3, m3, pickL ix ((.l a :: ys) ++ us), F', P, rh3, pick_rvs rr ix, q5, cv.mono ((e1.trans e2).trans e3), cx.mono ((e1.trans e2).trans e3)⟩) (cx.mono (e1.trans e2))) (cx.mono e1)⟩) cx
  refine PySem.W.methodCall_KW (pl := pl) (thn (he' pins s I) fun u s1 ⟨v, H1, I1, rx, a, dx, fs, ex, ea, l, q⟩ => ?_) ht
  subst ex
  obtain rfl : u = Value.ref a := rx
  refine getmeth_ok I1 ea M.cl M.mt l ?_
  refine hcw _ _ _ _ I1.kIn (thn (q pos pins s1 I1) fun us s2 ⟨vs, H2, I2, r2, q2⟩ => thn (q2 pos pins s2 I2) fun ws s3 ⟨zs, H3, I3, r3, l1, l2, q3⟩ => ⟨I3.kIn, ?_⟩)
  have rr : Vals (V.ref a :: vs) (Value.ref a :: us) := .cons rfl r2
  exact run_dk (us := .ref a :: us) (vs := .ref a :: vs) M.fn (hr.mono hk) hgd hb tk' I3 rr r3 (by rw [← rr.length]; exact l1) (by rw [← r3.length]; exact l2) q3⟩
/-- what callWith does with keywords: no positional argument, or some -/
theorem kw_0 (hk : PySem.W.keepIn X.K (.ref f) = true) (hall : (backToKw pos (keywordEach kws X.env)).all (·.1.isSome) = true := by rfl) (hks : (backToKw pos (keywordEach kws X.env)).filterMap (·.1) = ks := by rfl) (hpl : ((backTo pos (starEach [] X.env)).any (·.1) || (backToKw pos (keywordEach kws X.env)).any (·.1.isNone)) = false := by rfl) :
    ∀ (Q : Value → Shared → Prop) (E : Value → Shared → Prop) (a : Addr) (s : Shared), X.K.In s.heap → wpAny (model X.prog X.w) X.A (spliced (backTo pos (starEach [] X.env))) (fun us s1 => wpAny (model X.prog X.w) X.A (evalAll ((backToKw pos (keywordEach kws X.env)).map (·.2)))
      (fun ws s2 => X.K.In s2.heap ∧ wpAny (model X.prog X.w) X.A (call (.ref f) ([.ref a] ++ us) (ks.zip ws)) Q E s2) E s1) E s → wpAny (model X.prog X.w) X.A (callWith pos (.ref f) [.ref a] (backTo pos (starEach [] X.env)) (backToKw pos (keywordEach kws X.env))) Q E s := fun Q E a s hX h => by
  subst hks
  exact fun x y z => (PySem.W.callWith_KW0 (h₀ := s.heap) hX hk hall (h x y z) hpl) x y z
theorem kw_1 (hk : PySem.W.keepIn X.K (.ref f) = true) (hall : (backToKw pos (keywordEach kws X.env)).all (·.1.isSome) = true := by rfl) (hks : (backToKw pos (keywordEach kws X.env)).filterMap (·.1) = ks := by rfl) (hpl : ((backTo pos (starEach (e :: es) X.env)).any (·.1) || (backToKw pos (keywordEach kws X.env)).any (·.1.isNone)) = false := by rfl)
    (he : starEach (e :: es) X.env = (false, eval e X.env) :: starEach es X.env := by rfl) :
    ∀ (Q : Value → Shared → Prop) (E : Value → Shared → Prop) (a : Addr) (s : Shared), X.K.In s.heap → wpAny (model X.prog X.w) X.A (spliced (backTo pos (starEach (e :: es) X.env))) (fun us s1 => wpAny (model X.prog X.w) X.A (evalAll ((backToKw pos (keywordEach kws X.env)).map (·.2)))
      (fun ws s2 => X.K.In s2.heap ∧ wpAny (model X.prog X.w) X.A (call (.ref f) ([.ref a] ++ us) (ks.zip ws)) Q E s2) E s1) E s → wpAny (model X.prog X.w) X.A (callWith pos (.ref f) [.ref a] (backTo pos (starEach (e :: es) X.env)) (backToKw pos (keywordEach kws X.env))) Q E s := fun Q E a s hX h => by
  subst hks
  exact PySem.W.callWith_KW (h₀ := s.heap) hX hk hall h hpl he
/-- C(k = v, ..) -/
abbrev xMakeK (C : Addr) (d : DSp) (ks : List Str) (ix : List Nat) (tk : XA) : XE := fun r m F P => tk r m (fun zs m1 => zs.length = ks.length ∧ ∀ a dx, m1 a = none → d (pickL ix ([.l a] ++ zs)) (mu m1 a (.ins C dx [])) (fun y m2 => y = .d .none ∧ F (.l a) m2) P) P
theorem de_makeK (M : NF X.prog X.w X.K X.mg X.base x C k f fd ps d) (hr : Room j X.A) (hgd : X.A.guards = some []) (tk' : Takes X W) (hb : KwB fd ps ks 1 ix) (hg : Gl X x) (hkw : DK X W kws tk) (hk : k + 1 ≤ j := by decide) (hdb : (x == ("__debug__" : Str)) = false := by decide)
    (hall : (backToKw pos (keywordEach kws X.env)).all (·.1.isSome) = true := by rfl) (hks : (backToKw pos (keywordEach kws X.env)).filterMap (·.1) = ks := by rfl) (hpl : ((backTo pos (starEach [] X.env)).any (·.1) || (backToKw pos (keywordEach kws X.env)).any (·.1.isNone)) = false := by rfl) :
    DE X W (.Call (.Name x p) [] kws pos) (xMakeK C d ks ix tk) := ⟨fun {G r m σ H F' P Q} rs rh hx cv cx => fun pins s I => by
  subst hks
  refine wpAny_Call_Name_kw (ld_glob I hg M.gm ?_ hdb)
  have ha' := hkw.run (Q := fun vs H1 => vs.length = ((backToKw pos (keywordEach kws X.env)).filterMap (·.1)).length ∧ ∀ a dx, H1 a = none → H1 dx = none → dx ≠ a → cz X.K d (pickL ix ([.ref a] ++ vs)) (upd (upd H1 dx (.own a)) a (.ins C dx [])) (fun v H2 => v = .non ∧ Q (.ref a) H2) (WEx W σ)) rs rh hx (fun vs ys G1 m1 H1 e1 rh1 rv1 ⟨q0, q1⟩ => ⟨by rw [rv1.length, q0], fun a dx na ndx ne => by
    have f := rh1.free na
    have r1 : Rh X.K G1 m1 (upd H1 dx (.own a)) := ⟨fun b u q => by rw [upd_ne (ne_of_none (rh1.sub b u q) ndx)]; exact rh1.sub b u q, rh1.off, fun b u q => by
      obtain ⟨z, z1, z2⟩ := rh1.mem b u q
      exact ⟨z, by rw [upd_ne (ne_of_none z1 ndx)]; exact z1, z2⟩, rh1.tb.keep (Ex.refl _) (fun _ _ z => z) (fun _ _ z => z) (fun b o e _ => by rw [upd_ne (ne_of_none e ndx)]; exact e), rh1.nt⟩
    have r2 : Rh X.K G1 (mu m1 a (.ins C dx [])) (upd (upd H1 dx (.own a)) a (.ins C dx [])) := r1.new (by rw [upd_ne (Ne.symm ne)]; exact na) (.ins .nil)
    have rr : RVs X.K G1 ([.ref a] ++ vs) ([.l a] ++ ys) := (show RVs X.K G1 [.ref a] [.l a] from .cons (.l a) .nil).app rv1
    exact ⟨G1, _, pickL ix ([.l a] ++ ys), fun y m2 => y = .d .none ∧ F' (.l a) m2, P, r2, pick_rvs rr ix, q1 a dx f.2,
      fun v y G2 m2 H2 e2 rh2 rv2 ⟨q2, q3⟩ => by subst q2; exact ⟨rv2.non, cv _ _ G2 m2 H2 (e1.trans e2) rh2 (.l a) q3⟩, cx.mono e1⟩⟩) cx
  refine PySem.W.callWith_KW0 (h₀ := X.base) I.ok.mod.kin M.mk'.kp hall (thn (ha' pos pins s I) fun ws s1 ⟨zs, H1, I1, r1, l1, q⟩ => ⟨I1.kIn, ?_⟩) hpl
  have hq := q (s1.heap.objs.size + 1) s1.heap.objs.size (I1.hok.fresh (Nat.le_succ _)) (I1.hok.fresh (Nat.le_refl _)) (Nat.ne_of_lt (Nat.lt_succ_self _))
  have J := Inv.made (C := C) I1
  have rr : Vals ([V.ref (s1.heap.objs.size + 1)] ++ zs) ([Value.ref (s1.heap.objs.size + 1)] ++ ws) := .cons rfl r1
  have hr' : Room (k + 1) X.A := hr.mono hk
  refine wpAny_call (make_map (f := f) I1.kIn M.mk'.makes M.mk'.init (beq_iff_eq.mp M.mk'.fn) (codeAny_mono (M.fn.run _ X.stack _ _ ⟨[Value.ref (s1.heap.objs.size + 1)], ((backToKw pos (keywordEach kws X.env)).filterMap (·.1)).zip ws⟩ (pickL ix ([Value.ref (s1.heap.objs.size + 1)] ++ ws)) _ _ (WEx W σ)
    (make_guards hgd) (hr'.make C [] _) (J.env0.make C [] _) (hb.to _ [Value.ref (s1.heap.objs.size + 1)] ws rfl (by rw [← r1.length]; exact l1)) (pick_rel rr ix) hq) fun z s' hz => ?_))
  match z, hz with
  | .error e, hz => exact passAt tk' σ pins _ _ e s' J hz
  | .ok (.ret u), hz =>
    obtain ⟨v, H', I3, rv, ev, q3⟩ := J.after hz
    subst ev
    exact ⟨rv, ⟨V.ref (s1.heap.objs.size + 1), H', I3, rfl, q3⟩⟩
  | .ok .next, hz => exact False.elim hz
  | .ok .brk, hz => exact False.elim hz
  | .ok .cont, hz => exact False.elim hz⟩
end
end Dl
/-! D40: repr of an instance by its own __repr__. -/
namespace Dl
open PySem PySem.Spec PyProof.Rows L2 Evl
section
variable {X : Cx} {k j : Nat} {f C : Addr} {fd : FuncData} {ps : List Str} {d : DSp}
abbrev xReprO (C : Addr) (d : DSp) : XRC := fun ys m F => ∃ a dx gs, ys = [.l a] ∧ m a = some (.ins C dx gs) ∧ d [.l a] m (fun y m' => ∃ x, y = .d (.str x) ∧ F y m') (fun _ _ _ => False)
theorem cd_reprO (M : MF X.prog X.w X.K X.mg X.base C "__repr__" k f fd ps d) (hr : Room j X.A) (hgd : X.A.guards = some []) (hk : k + 1 ≤ j := by decide) : CallD X (.builtin "repr") (xReprO C d) := by
  refine ⟨fun xs H Q => ∃ a dx fs, xs = [.ref a] ∧ H a = some (.ins C dx fs) ∧ cz X.K d [.ref a] H (fun v H' => ∃ x, v = .str x ∧ Q (.str x) H') (fun _ _ _ => False), ?_, fun {G m H vs ys F Q} rh rv hx cv => ?_⟩
  · intro pins s σ H xs us Q I r ⟨a, dx, fs, ex, ea, q⟩
    subst ex
    obtain ⟨u, rfl, ru⟩ := r.one
    cases ru
    obtain ⟨mA, O, _, _, _, _⟩ := ins_get I.hok ea
    obtain ⟨od, J, _⟩ := O.look
    obtain ⟨m0, hm0, _⟩ := I.loc
    have Fr0 : PyProof.Rows.Fr X.base X.env.locals s.heap m0 := ⟨hm0, I.bk, Nat.le_trans I.ok.bsz I.ok.above⟩
    have hr1 : Room (k + 1) X.A := hr.mono hk
    have hl : ([Value.ref a] ++ []).length = ps.length := by
      obtain ⟨_, _, ys, _, _, _, z2, z3, _⟩ := id q
      rw [← M.fn.len _ _ _ _ z3, ← z2.length]
      rfl
    refine PySem.W.repr_K (by have := hr1.un; show X.A.units + 1 < _; omega) Fr0 I.ok.mod.kin J M.mt.at_ M.mt.fn (wpAny_call ?_)
    refine codeAny_mono (M.fn.run X.A.in1 X.stack s H ⟨[.ref a], []⟩ [.ref a] [.ref a] _ (fun _ _ _ => False) hgd hr1.in1 I.env0.in1 (M.bn _ [.ref a] I.kIn hl) (.cons rfl .nil) q) fun z s' hz => ?_
    match z, hz with
    | .error er, hz => exact passAt (W := fun _ _ _ _ => False) takes_none5 σ pins H s er s' I hz
    | .ok (.ret u), hz =>
      obtain ⟨v, H', I3, rv, x, ev, q3⟩ := I.after hz
      subst ev
      obtain ⟨t, rfl⟩ := rv
      exact ⟨.str x, H', I3, ⟨t, rfl⟩, q3⟩
    | .ok .next, hz => exact False.elim hz
    | .ok .brk, hz => exact False.elim hz
    | .ok .cont, hz => exact False.elim hz
  · obtain ⟨a, dx, gs, rfl, hm, q⟩ := hx
    obtain ⟨v, rfl, r1⟩ := rvs1 rv
    cases r1.loc
    obtain ⟨fs, hH, hf⟩ := rh.ins hm
    exact ⟨a, dx, fs, rfl, hH, G, m, [.l a], _, _, rh, .cons (.l a) .nil, q, fun v y G1 m1 H1 e1 rh1 rv1 ⟨x, e, f⟩ => by subst e; exact ⟨x, rv1.str, cv _ _ G1 m1 H1 e1 rh1 (.d (.str x)) f⟩, fun _ _ _ _ _ _ _ _ _ z => z⟩
end
end Dl
/-! D41: lambdas within a comprehension; try: call() except E as e: SUITE; return x, the suite read by the layer. -/
namespace Dl
open PySem PySem.Spec PyProof.Rows L2 Evl
theorem lamS_r {o scope : Scope} {env : Env} (sc0 : Scope) (e : relabel o env = relabel o (sEnv sc0)) (h : LamX.lamSB (relabel o (sEnv sc0)) scope = true) : LamX.LamS (relabel o env) scope := by
  rw [e]; exact LamX.lamS_by h
/-- {} as data -/
theorem de_dict0 {X : Cx} {W : WX} {pos : Pos} : DE X W (.Dict [] [] pos) (xC (.d (.dict []))) := ⟨fun {G r m σ H F P Q} rs rh hx cv cx => se_of pe_dnewK fun p hp => by
  obtain ⟨e1, r1⟩ := rh.data (o := .dK []) hp
  exact cv _ _ _ m _ e1 r1 (.d (.dic (kvs := []) (ks := []) (ds := []) (.inl upd_same) .nil .nil rfl)) hx⟩
/-- the suite of the first except clause of a try that stands first -/
def suiteOf : List Stmt → List Stmt
  | .Try _ (.ExceptHandler _ _ b _ :: _) _ _ _ :: _ => b
  | _ => []
/-- the suite's context -/
abbrev cxSu (pr : Program) (w : World) (K : PySem.W.Frag) (mg : Str → Option Value) (base : Heap) (N : List Str) (x : Str) (sc : Scope) (g : Addr) (cd : Value) (A : Around) (outer : List Env) (s : Shared) (H : Hp) (E : XK) (b : Addr) (pn : List (Addr × Obj)) : Cx :=
  (cxD pr w K mg base N x sc g cd A outer s H E).suite b pn
abbrev r0Su (N : List Str) (i : Nat) (b : Addr) : Ro := (List.replicate N.length none).set i (some (.v (.ref b)))
/-- what the suite, the exception b of class cls in slot i, answers -/
def SuOk (pr : Program) (w : World) (K : PySem.W.Frag) (mg : Str → Option Value) (base : Heap) (N : List Str) (x : Str) (sc : Scope) (k i : Nat) (body : List Stmt) (de : DEx) : Prop :=
  ∀ (g : Addr) (cd : Value) (A : Around) (outer : List Env) (s : Shared) (H : Hp) (E : XK) (b : Addr) (pn : List (Addr × Obj)) (cls : Value), BxE (cxSu pr w K mg base N x sc g cd A outer s H E b pn) k b cls →
    ∃ t, DSs (cxSu pr w K mg base N x sc g cd A outer s H E b pn) (WE1 Eno) body t ∧ ∀ m F, de cls m F → t { nx := fun _ _ => False, rt := F } (r0Su N i b) m
abbrev d_err (K : PySem.W.Frag) (CE : Addr) (x0 : Str) (de : DEx) : XTh → XTh := fun tl m F P => tl m (fun _ m1 => F (.d (.str x0)) m1) (fun cls fs m1 => fs = [] ∧ PySem.W.exmOne K cls (.ref CE) = some true ∧ de cls m1 F)
theorem rs_none {K : PySem.W.Frag} {G : Hp} : ∀ (σ : L2.St), Rs K G σ (List.replicate σ.length none)
  | [] => .nil
  | _ :: σ => .cons (.any _) (rs_none σ)
theorem err_gives {pr : Program} {w : World} {K : PySem.W.Frag} {mg : Str → Option Value} {base : Heap} {N : List Str} {x a e n x0 : Str} {sc : Scope} {g CE : Addr} {k : Nat} {cd : Value} {i j2 : Nat} {de : DEx} {b0 : Stmt} {body : List Stmt}
    {p1 p2 p3 p5 p10 p11 p22 p25 : Pos} (S : FnScope N [a] sc) (hge : sc.names.lookup e = some .globalImplicit) (hme : mg e = some (.ref CE)) (hde : (e == ("__debug__" : Str)) = false)
    (hi : N[i]? = some n) (hil : i < N.length) (hn : sc.names.lookup n = some .local)
    (h0 : ∀ f : Addr, (L2.start N [V.ref f])[0]? = some (some (V.ref f))) (SU : SuOk pr w K mg base N x sc k i (b0 :: body) de)
    (X : Cx) (y1 : X.prog = pr) (y2 : X.w = w) (y3 : X.K = K) (y4 : X.mg = mg) (y5 : X.base = base) :
    GivesD X N x sc g cd [.Try [.Expr (.Call (.Name a p1) [] [] p2) p3] [.ExceptHandler (some (.Name e p5)) (some n) (b0 :: body) p10] [] [] p11, .Return (some (.Constant (.str x0) j2 p22)) p25] a k (d_err K CE x0 de) := by
  subst y1 y2 y3 y4 y5
  intro f s H G m F P Q E tl hgd hr act rh hx cv cx
  have hnm : Names (cxG X N x sc g cd s H E) e (.ref CE) := ⟨hge, hde, .inl hme⟩
  have last : PS (cxG X N x sc g cd s H E) (.Return (some (.Constant (.str x0) j2 p22)) p25) _ := ps_ret pe_str
  refine ⟨_, pss_cons (ps_try_as (X := cxG X N x sc g cd s H E) (i := i) (Wout := WE1 E)
    (tb := fun W' D τ Hz => ∃ Ec : XK, (∀ cls d σ' H', Ec cls d H' → W' cls d σ' H') ∧ τ[0]? = some (some (.ref f)) ∧ ∃ G1 m1 F1 P1, Ex G G1 ∧ Rh X.K G1 m1 Hz ∧ tl m1 F1 P1 ∧ CvE X.K G1 F1 (fun v H1 => D.nx τ H1) ∧ CvX X.K G1 P1 Ec)
    (ts := fun b cls d D τ Hz => (∃ τ0 : L2.St, τ = τ0.set i (some (.ref b))) ∧ d = none ∧ ∃ G1 m1 F1, Rh X.K G1 m1 Hz ∧ de cls m1 F1 ∧ CvE X.K G1 F1 D.rt)
    rfl rfl S.nd hi hn hnm (takes_of rfl rfl rfl rfl) (fun W' pn xe tk' _ => ?_) (fun b oe cls d pn hz hf => ?_)) (pss_one last), ?_⟩
  · refine ⟨fun pz z τ Hz D J ⟨Ec, hW, z1, G1, m1, F1, P1, z2, z3, z4, z5, z6⟩ => ?_⟩
    have hc := act W' pn xe Ec p1 p2 tk' hW
    have hall := pss_one (ps_expr (pos := p3) hc)
    exact hall.run pz z τ Hz D J ⟨z1, G1, m1, F1, P1, z2, z3, z4, z5, z6⟩
  · refine ⟨fun pz z τ Hz D J ⟨z1, z2, G1, m1, F1, z3, z4, z5⟩ => ?_⟩
    subst z2
    have hro : L2H.RoomH k ((cxG X N x sc g cd s H E).suite b ((b, oe) :: pn)).A := ⟨hr.dp, hr.un⟩
    have bx : BxE (cxSu X.prog X.w X.K X.mg X.base N x sc g cd X.A X.stack s H E b ((b, oe) :: pn)) k b cls := ⟨hro, hgd, fun _ _ x => by
      obtain ⟨_, _, _, _, _, _, _, _, _, _, _, _, _, _, _, _, z⟩ := x
      exact z.elim, oe, List.mem_cons_self, hz, hf⟩
    obtain ⟨t, hd, ht⟩ := SU g cd X.A X.stack s H E b ((b, oe) :: pn) cls bx
    have rs : Rs X.K G1 τ (r0Su N i b) := by
      obtain ⟨τ0, rfl⟩ := z1
      have hl : (τ0.set i (some (V.ref b))).length = N.length := J.len
      rw [List.length_set] at hl
      have := (rs_none (K := X.K) (G := G1) τ0).set (RV.v (V.ref b)) i
      rw [hl] at this
      exact this
    exact hd.run (E := D) rs z3 (ht m1 F1 z4) ⟨fun _ _ _ _ _ _ _ _ q => q.elim, fun v y G' m' H' e1 rh1 rv1 q => z5 v y G' m' H' e1 rh1 rv1 q, fun _ _ _ _ _ _ _ _ q => q.elim, fun _ _ _ _ _ _ _ _ q => q.elim, fun _ _ _ _ _ _ _ _ _ _ _ _ q => q.elim⟩ pz z J
  · refine ⟨fun cls d H' => ∃ G1 m1 fs, Rh X.K G1 m1 H' ∧ Ex G G1 ∧ XF X.K G1 H' d fs ∧ fs = [] ∧ PySem.W.exmOne X.K cls (.ref CE) = some true ∧ de cls m1 F, fun cls d σ' H' ⟨G1, m1, fs, w1, w2, w3, w4, w5, w6⟩ => ⟨true, w5, fun hb c _ => ⟨⟨_, rfl⟩, ?_, G1, m1, F, w1, w6, cv.mono w2⟩, fun z => nomatch z⟩,
      h0 f, G, m, _, _, Ex.refl G, rh, hx, fun v y G1 m1 H1 e1 rh1 rv1 q => cv _ _ G1 m1 H1 e1 rh1 (.d (.str x0)) q, fun cls d fs G1 m1 H1 e1 rh1 xf ⟨q1, q2, q3⟩ => ⟨G1, m1, fs, rh1, e1, xf, q1, q2, q3⟩⟩
    rcases w3 with ⟨_, h⟩ | ⟨h, _⟩
    · exact h
    · exact absurd w4 h
end Dl
/-! D42: == and != of instances by their own __eq__; isinstance of an instance; x.__class__, C.__name__. -/
namespace PySem.W
open PySem PySem.Calls PyProof.Rows Builtin Builtin.ObjectAttr Builtin.Getset_descriptor
section
variable {prog : Program} {w : World} {A : Around} {E : Value → Shared → Prop} {s : Shared} {K : Frag} {x C L f : Addr} {h₀ : Heap} {m : Str → Option Value} {ox : Obj} {od : Option Obj} {b tb v : Value} {R : Result → Shared → Prop}
/-- C.__name__: the text that the class keeps -/
theorem oname_get {oc : Value} {dd : Option Addr} {dt : Data} {sl : Array (Option Value)} {tp : Value} (X : K.In s.heap) (hl : K.lookup C = some ⟨oc, dd, dt, sl⟩) (ht : typeIn K (.ref C) = some (.type "type")) (hs : (sl[2]?).join = some v) (h : R (.ok (.ret v)) s) :
    codeAny (model prog w) A (.call (.builtin "getset_descriptor.__get__") ⟨[.builtin "type.__name__", .ref C, tp], []⟩) R s := by
  obtain ⟨hh, g, dr, t, os⟩ := s
  have L0 : Looks (model prog w) hh (typeOf (.ref C)) (.type "type") := looks_typeIn X ht
  have L1 : Looks (model prog w) hh (isSubtype (.type "type") (.type "type")) true := Looks.of_pure (by rw [isSubtype_type]; kernel_rfl)
  refine codeAny_call_builtin KF.slot_gs.plain KF.entry_gs (KF.slot_gs.check _ _ _ _ _ _ _ _ ktyn_type (KF.args_gs _ _ _) ?_)
  unfold Builtin.«getset_descriptor.__get__» descrGet
  rw [dga_obj]
  refine wpAny_bind (wpAny_pure ?_)
  unfold descrGetter descrCheckInstance descrNameAndClass isInstance
  simp only [ktyn_owner]
  repeat lk
  refine ⟨Code.quiet_builtin _ (by decide +kernel), codeAny_builtin ktyn_entry ?_⟩
  unfold Builtin.«type.__name__» keptObject
  dsimp only
  have L2 : Looks (model prog w) hh (slotAt C 2) (some v) := by
    unfold slotAt
    exact (Looks.ld (X _ _ hl)).andThen (by show Looks _ _ (pure ((sl[2]?).join)) _; rw [hs]; exact .now)
  repeat lk
  exact h
theorem oname_attr {expr : Bool} {oc : Value} {dd : Option Addr} {dt : Data} {sl : Array (Option Value)} {nm : Str} {tk : Tok} {Q : Value → Shared → Prop} (X : K.In s.heap) (hl : K.lookup C = some ⟨oc, dd, dt, sl⟩) (ht : typeIn K (.ref C) = some (.type "type")) (hs : (sl[2]?).join = some (.str nm tk))
    (ho : nsIn K cStatics "thirdparty.any" = some none) (e : findCls K (.ref C) (.type "type") "__name__" = some (.get (.builtin "getset_descriptor.__get__") (.builtin "type.__name__") (.ref C) (.type "type")))
    (h : Q (.str nm tk) { s with toks := s.toks + 1 }) : wpAny (model prog w) A (getAttr (.ref C) "__name__" expr) Q E s := by
  have L0 : Looks (model prog w) s.heap (typeOf (.ref C)) (.type "type") := looks_typeIn X ht
  have hg : findIn K (.type "type") "__getattribute__" = some (some (.builtin "type.__getattribute__")) := type_tga
  refine cls_open X (looks_opaque X ho) L0 hg (looks_hook X (r := none) (by rfl)) (by show subIn K _ _ = _; rfl) e ?_
  show wpAny _ _ (do ret (← holding [Value.builtin "type.__name__"] (call (.builtin "getset_descriptor.__get__") [.builtin "type.__name__", .ref C, .type "type"]))) _ _ _
  refine wpAny_bind (wpAny_holding (wpAny_call (oname_get (s := { s with toks := s.toks + 1 }) X hl ht hs ?_)))
  exact wpAny_pure (handed_on rfl h)
/-! ### == and != -/
theorem ifBound_B {M : Model} {id : String} {name : Str} {args : List Value} {Q : Option Value → Shared → Prop} (X : K.In s.heap) (I : InstAt s.heap x ox C od) (hs : findIn K (.ref C) name = some (some (.builtin id)))
    (hb : ∀ self, bindSpecial (.builtin id) self = pure (.builtin id, [self])) (h : wpAny M A (call (.builtin id) (.ref x :: args)) (fun v => Q (some v)) E s) : wpAny M A (callSpecialIfBound? (.ref x) name args) Q E s := by
  simp only [callSpecialIfBound?, bindSpecialIfBound?]
  refine wpAny_holding (wpAny_bind (wpAny_bind (wpAny_bind (I.type.here ((looks_findIn X hs).here ?_)))))
  simp only [hb]
  refine wpAny_bind (wpAny_askSetting (wpAny_ite ?_))
  have fin : wpAny M A (call (.builtin id) ([.ref x] ++ args) >>= fun v => pure (some v)) Q E s := wpAny_bind (wpAny_mono h (fun v s' h' => wpAny_pure h') fun _ _ h' => h')
  split
  · exact wpAny_bind (wpAny_pure (wpAny_pure fin))
  · exact wpAny_tryCatch (wpAny_bind (wpAny_pure (wpAny_pure fin)))
theorem tryNe {Q : Option Value → Shared → Prop} (hu : A.units + 1 < cLine) (X : K.In s.heap) (I : InstAt s.heap x ox C od) (hm : mroIn K C (.type "object") = some true) (hne : findIn K (.ref C) "__ne__" = some (some (.builtin "object.__ne__")))
    (he : findIn K (.ref C) "__eq__" = some (some (.ref f))) (hf : isFn K (.ref f) = true) (hcall : wpAny (model prog w) A.in1 (call (.ref f) [.ref x, b]) (fun v s' => ∃ k, v = .bool k ∧ Q (some (.bool (!k))) s') E s) :
    wpAny (model prog w) A (tryCompare (.ref x) "__ne__" b) Q E s := by
  simp only [tryCompare]
  refine wpAny_bind (ifBound_B X I hne F.cmp_object.ne.bind (wpAny_call (codeAny_call_builtin F.cmp_object.ne.plain F.cmpEntry_ne (check_slot F.cmpKind_ne F.cmpSplit_ne (I.type.andThen (looks_mroIn X hm)) (F.cmpArgs_ne _ _) ?_))))
  unfold Builtin.«object.__ne__»
  repeat (first
    | with_reducible refine wpAny_cRoomFor (A := A.in1) hu ?_
    | (refine wpAny_bind (m := callSpecialIfBound? (.ref x) (Str.ofString "__eq__") [b])
        (ifBound_K X I he hf (wpAny_mono hcall (fun v s' hr => by
          obtain ⟨k, rfl, hq⟩ := hr
          repeat (first | exact hq | exact wpAny_pure hq | exact wpAny_truthy_bool hq | (refine wpAny_bind (m := truthy (.bool _)) (wpAny_truthy_bool ?_)) | wp_step)) fun _ _ e => e)))
    | wp_step)
/-- the left one's answer counts: the right one is of no class below -/
theorem cmp_left {op : CmpOp} {Q : Value → Shared → Prop} (hu : A.units < cLine) (X : K.In s.heap) (I : InstAt s.heap x ox C od) (hb : Looks (model prog w) s.heap (typeOf b) tb) (hn : notFirst K C tb = true)
    (one : wpAny (model prog w) A (tryCompare (.ref x) (cmpInfo op).2.1 b) (fun r s' => ∃ v, r = some v ∧ Q v s') E s) : wpAny (model prog w) A (richCompare op (.ref x) b) Q E s := by
  unfold richCompare
  simp only [oneThing_ref]
  refine wpAny_holding (wpAny_bind (wpAny_cRoomFor hu ?_))
  refine wpAny_bind (I.type.here (wpAny_bind (hb.here ?_)))
  split
  · rename_i q
    have e : subIn K tb (.ref C) = some false := by
      rcases Bool.or_eq_true_iff.mp hn with e | e
      · rw [beq_iff_eq.mp e] at q; simp at q
      · exact beq_iff_eq.mp e
    refine wpAny_bind ((looks_subIn X e).here ?_)
    simp only [Bool.false_eq_true, if_false]
    refine wpAny_bind (wpAny_mono one (fun r s' z => ?_) fun _ _ e => e)
    obtain ⟨v, rfl, hq⟩ := z
    exact wpAny_pure hq
  · refine wpAny_bind (wpAny_pure ?_)
    simp only [Bool.false_eq_true, if_false]
    refine wpAny_bind (wpAny_mono one (fun r s' z => ?_) fun _ _ e => e)
    obtain ⟨v, rfl, hq⟩ := z
    exact wpAny_pure hq
/-- the right one is of a class below: it is asked first -/
theorem cmp_right {op : CmpOp} {y D : Addr} {oy : Obj} {oe : Option Obj} {Q : Value → Shared → Prop} (hu : A.units < cLine) (X : K.In s.heap) (I : InstAt s.heap x ox C od) (J : InstAt s.heap y oy D oe) (hne : (Value.ref C != Value.ref D) = true) (hs : subIn K (.ref D) (.ref C) = some true)
    (one : wpAny (model prog w) A (tryCompare (.ref y) (cmpInfo op).2.2 (.ref x)) (fun r s' => ∃ v, r = some v ∧ Q v s') E s) : wpAny (model prog w) A (richCompare op (.ref x) (.ref y)) Q E s := by
  unfold richCompare
  simp only [oneThing_ref]
  refine wpAny_holding (wpAny_bind (wpAny_cRoomFor hu ?_))
  refine wpAny_bind (I.type.here (wpAny_bind (J.type.here ?_)))
  rw [hne, if_pos rfl]
  refine wpAny_bind ((looks_subIn X hs).here ?_)
  rw [if_pos rfl]
  refine wpAny_bind (wpAny_mono one (fun r s' z => ?_) fun _ _ e => e)
  obtain ⟨v, rfl, hq⟩ := z
  repeat (first | exact wpAny_pure hq | refine wpAny_bind ?_ | wp_step)
end
end PySem.W
namespace Dl
open PySem PySem.Spec PyProof.Rows L2 Evl
/-- what isinstance and x.__class__ ask of a class -/
structure ClsI (K : PySem.W.Frag) (C : Addr) : Prop where
  cl : Cls K C
  ha : PySem.W.findIn K (.ref C) "__class__" = some (some (.builtin "object.__class__"))
  hn : PySem.W.specialIn K (.builtin "object.__class__") "__get__" = some (some (.builtin "getset_descriptor.__get__"))
  ht : PySem.W.takesIn K (.builtin "object.__class__") = some true
  hm : PySem.W.mroIn K C (.type "object") = some true
/-- the class at C keeps its name -/
structure NmC (K : PySem.W.Frag) (C : Addr) (nm : Str) : Prop where
  lk : ∃ oc dd dt sl t, K.lookup C = some ⟨oc, dd, dt, sl⟩ ∧ (sl[2]?).join = some (.str nm t)
  ty : PySem.W.typeIn K (.ref C) = some (.type "type")
  fc : PySem.W.findCls K (.ref C) (.type "type") "__name__" = some (.get (.builtin "getset_descriptor.__get__") (.builtin "type.__name__") (.ref C) (.type "type"))
  oq : PySem.W.nsIn K cStatics "thirdparty.any" = some none
section
variable {X : Cx} {W : WX} {e : Expr} {pos : Pos} {ta : XE}
abbrev xClsO (K : PySem.W.Frag) (ta : XE) : XE := fun r m F P => ta r m (fun y m1 => ∃ a C dx gs, y = .l a ∧ m1 a = some (.ins C dx gs) ∧ ClsI K C ∧ F (.v (.ref C)) m1) P
theorem pe_clsO {t : TE} (he : PE X e t) (hb : attributeBase e "__class__" X.env (eval e X.env) = eval e X.env) :
    PE X (.Attribute e "__class__" pos) (fun σ H Q => t σ H fun x H1 => ∃ a C dx fs, x = .ref a ∧ H1 a = some (.ins C dx fs) ∧ ClsI X.K C ∧ Q (.ref C) H1) := by
  refine ⟨fun pins s σ H Q I h => ?_⟩
  refine attr_of hb (thn (he.run pins s σ H _ I h) fun u s1 ⟨x, H1, I1, rx, a, C, dx, fs, ex, ea, L, q⟩ => ?_)
  subst ex
  obtain rfl : u = Value.ref a := rx
  obtain ⟨mA, O, _⟩ := ins_get I1.hok ea
  obtain ⟨od, J, _⟩ := O.look
  obtain ⟨m, hF⟩ := I1.fr
  exact PySem.W.get_class hF I1.ok.mod.kin J (L.cl.get _) L.cl.hd L.ha L.hn L.ht L.hm ⟨.ref C, H1, I1.tok _, rfl, q⟩
theorem de_clsO (K : PySem.W.Frag) (he : DE X W e ta) (hb : attributeBase e "__class__" X.env (eval e X.env) = eval e X.env := by rfl) (hK : X.K = K := by rfl) : DE X W (.Attribute e "__class__" pos) (xClsO K ta) := ⟨fun {G r m σ H F P Q} rs rh hx cv cx => by
  subst hK
  exact se_of (pe_clsO se_pe hb) (he.run rs rh hx (fun w y G1 m1 H1 e1 rh1 rv1 ⟨a, C, dx, gs, q1, q2, q3, q4⟩ => by
    subst q1
    cases rv1.loc
    obtain ⟨fs, hH, hf⟩ := rh1.ins q2
    exact ⟨a, C, dx, fs, rfl, hH, q3, cv _ _ G1 m1 H1 e1 rh1 (.v _) q4⟩) cx)⟩
abbrev xNmO (K : PySem.W.Frag) (ta : XE) : XE := fun r m F P => ta r m (fun y m1 => ∃ C nm, y = .v (.ref C) ∧ NmC K C nm ∧ F (.d (.str nm)) m1) P
theorem pe_nmO {t : TE} (he : PE X e t) (hb : attributeBase e "__name__" X.env (eval e X.env) = eval e X.env) :
    PE X (.Attribute e "__name__" pos) (fun σ H Q => t σ H fun x H1 => ∃ C nm, x = .ref C ∧ NmC X.K C nm ∧ Q (.str nm) H1) := by
  refine ⟨fun pins s σ H Q I h => ?_⟩
  refine attr_of hb (thn (he.run pins s σ H _ I h) fun u s1 ⟨x, H1, I1, rx, C, nm, ex, N, q⟩ => ?_)
  subst ex
  obtain rfl : u = Value.ref C := rx
  obtain ⟨oc, dd, dt, sl, t, h1, h2⟩ := N.lk
  exact PySem.W.oname_attr I1.kIn h1 N.ty h2 N.oq N.fc ⟨.str nm, H1, I1.tok _, ⟨t, rfl⟩, q⟩
theorem de_nmO (K : PySem.W.Frag) (he : DE X W e ta) (hb : attributeBase e "__name__" X.env (eval e X.env) = eval e X.env := by rfl) (hK : X.K = K := by rfl) : DE X W (.Attribute e "__name__" pos) (xNmO K ta) := ⟨fun {G r m σ H F P Q} rs rh hx cv cx => by
  subst hK
  exact se_of (pe_nmO se_pe hb) (he.run rs rh hx (fun w y G1 m1 H1 e1 rh1 rv1 ⟨C, nm, q1, q2, q3⟩ => by
    subst q1
    cases rv1
    exact ⟨C, nm, rfl, q2, cv _ _ G1 m1 H1 e1 rh1 (.d (.str nm)) q3⟩) cx)⟩
end
/-- a value's class -/
inductive TyO (K : PySem.W.Frag) (m : Mu) : Y → Value → Prop
  | d (x : PyData) : TyO K m (.d x) (.type (tyD x))
  | lst {p : Addr} {ys : List Y} : m p = some (.lst ys) → TyO K m (.l p) (.type "list")
  | ins {a C dx : Addr} {gs : List (Str × Y)} : m a = some (.ins C dx gs) → ClsI K C → TyO K m (.l a) (.ref C)
theorem tyO_ok {K : PySem.W.Frag} {G H : Hp} {m : Mu} {v : V} {y : Y} {t : Value} (rh : Rh K G m H) (rv : RV K G v y) (h : TyO K m y t) : TyX K H v t := by
  cases h with
  | d x => exact tyX_ok rh rv.da
  | lst e =>
    cases rv.loc
    obtain ⟨ws, hH, _⟩ := rh.lst e
    exact .base (.lst hH)
  | ins e L =>
    cases rv.loc
    obtain ⟨fs, hH, _⟩ := rh.ins e
    exact .base (.ins hH L.cl L.ha L.hn L.ht L.hm)
section
variable {X : Cx}
abbrev xIsO (K : PySem.W.Frag) : XRC := fun ys m F => ∃ y c t cv b, ys = [y, .v c] ∧ ((∃ C, c = .ref C ∧ cv = .ref C) ∨ ∃ T, c = .ty T ∧ cv = .type T) ∧ TyO K m y t ∧ PySem.W.kitOne K t cv = some b ∧ F (.d (.bool b)) m
theorem cd_isO : CallD X (.builtin "isinstance") (xIsO X.K) := ⟨_, call_isi, fun {G m H vs ys F Q} rh rv hx cv => by
  obtain ⟨y, c, t, u, b, rfl, hc, hy, e, f⟩ := hx
  obtain ⟨v, w, rfl, r1, r2⟩ := rvs2 rv
  cases r2
  refine ⟨v, c, t, u, b, rfl, ?_, tyO_ok rh r1 hy, e, cv.at rh (.d (.bl b)) f⟩
  rcases hc with ⟨C, rfl, rfl⟩ | ⟨T, rfl, rfl⟩
  · exact .own C
  · exact .ty T⟩
theorem kisO (K : PySem.W.Frag) (hK : X.K = K := by rfl) : CallD X (.builtin "isinstance") (xIsO K) := by
  subst hK; exact cd_isO
/-! ### == and != -/
/-- x == y by the class of x; x != y by it -/
structure EqC (K : PySem.W.Frag) (C : Addr) : Prop where
  ne : PySem.W.findIn K (.ref C) "__ne__" = some (some (.builtin "object.__ne__"))
  ci : ClsI K C
abbrev opOf (neg : Bool) : CmpOp := if neg then .NotEq else .Eq
abbrev xEqL1 (K : PySem.W.Frag) (neg : Bool) (C : Addr) (d : DSp) : XR := fun y z m F => ∃ a dx gs t, y = .l a ∧ m a = some (.ins C dx gs) ∧ TyO K m z t ∧ PySem.W.notFirst K C t = true ∧ d [y, z] m (fun w m' => ∃ k, w = .d (.bool k) ∧ F (.d (.bool (neg != k))) m') (fun _ _ _ => False)
abbrev xEqR1 (K : PySem.W.Frag) (neg : Bool) (D : Addr) (d : DSp) : XR := fun y z m F => ∃ a C dx gs b dy hs, y = .l a ∧ m a = some (.ins C dx gs) ∧ z = .l b ∧ m b = some (.ins D dy hs) ∧ (Value.ref C != Value.ref D) = true ∧ PySem.W.subIn K (.ref D) (.ref C) = some true ∧
  d [z, y] m (fun w m' => ∃ k, w = .d (.bool k) ∧ F (.d (.bool (neg != k))) m') (fun _ _ _ => False)
variable {k j : Nat} {f C : Addr} {fd : FuncData} {ps : List Str} {d : DSp}
/-- the instance's own method is called with the other value -/
theorem own_try (neg : Bool) (M : MF X.prog X.w X.K X.mg X.base C "__eq__" k f fd ps d) (E0 : EqC X.K C) (hr : Room (k + 1) X.A) (hgd : X.A.guards = some []) {pins : List (Addr × Obj)} {s : Shared} {σ : L2.St} {H : Hp} {a dx : Addr} {fs : List (Str × V)} {z : V} {u : Value} {Q : VK}
    (I : Inv X pins σ H s) (ea : H a = some (.ins C dx fs)) (rz : RelV z u) (q : cz X.K d [.ref a, z] H (fun v H' => ∃ k, v = .bl k ∧ Q (.bl (neg != k)) H') (fun _ _ _ => False)) :
    wpAny (model X.prog X.w) X.A (tryCompare (.ref a) (cmpInfo (opOf neg)).2.1 u) (fun r s' => ∃ v, r = some v ∧ EP X pins σ Q v s') X.xe s := by
  obtain ⟨mA, O, _⟩ := ins_get I.hok ea
  obtain ⟨od, J, _⟩ := O.look
  have hl : ([Value.ref a, u]).length = ps.length := by
    obtain ⟨_, _, ys, _, _, _, z2, z3, _⟩ := id q
    rw [← M.fn.len _ _ _ _ z3, ← z2.length]
    rfl
  have go : ∀ A : Around, A.guards = some [] → Room k A → Env0 X.prog X.w X.K X.mg X.base A X.stack s H → wpAny (model X.prog X.w) A (call (.ref f) [.ref a, u]) (fun v s' => ∃ k, v = .bool k ∧ EP X pins σ Q (.bool (neg != k)) s') X.xe s := fun A hg hrA e0 => by
    refine wpAny_call (codeAny_mono (M.fn.run A X.stack s H ⟨[.ref a, u], []⟩ [.ref a, u] [.ref a, z] _ (fun _ _ _ => False) hg hrA e0 (M.bn _ [.ref a, u] I.kIn hl) (.cons rfl (.cons rz .nil)) q) fun y s' hz => ?_)
    match y, hz with
    | .error er, hz => exact passAt (W := fun _ _ _ _ => False) takes_none5 σ pins H s er s' I hz
    | .ok (.ret v), hz =>
      obtain ⟨v', H', I3, rv, k, ev, q3⟩ := I.after hz
      subst ev
      cases rv
      exact ⟨k, rfl, .bl (neg != k), H', I3, rfl, q3⟩
    | .ok .next, hz => exact False.elim hz
    | .ok .brk, hz => exact False.elim hz
    | .ok .cont, hz => exact False.elim hz
  cases neg with
  | false =>
    show wpAny _ X.A (tryCompare (.ref a) "__eq__" u) _ _ _
    unfold tryCompare
    refine wpAny_bind (PySem.W.ifBound_K I.kIn J M.mt.at_ M.mt.fn (wpAny_mono (go X.A hgd (hr.mono (Nat.le_succ k)) I.env0) (fun v s' hv => ?_) fun _ _ e => e))
    obtain ⟨k, rfl, hq⟩ := hv
    exact wpAny_pure ⟨_, rfl, by simpa using hq⟩
  | true =>
    show wpAny _ X.A (tryCompare (.ref a) "__ne__" u) _ _ _
    have hu : X.A.units + 1 < cLine := by have := hr.un; omega
    refine PySem.W.tryNe hu I.kIn J E0.ci.hm E0.ne M.mt.at_ M.mt.fn (wpAny_mono (go X.A.in1 hgd hr.in1 I.env0.in1) (fun v s' hv => ?_) fun _ _ e => e)
    obtain ⟨k, rfl, hq⟩ := hv
    exact ⟨k, rfl, _, rfl, by simpa using hq⟩
theorem cmpOf (neg : Bool) (v u : Value) : compareOp (opOf neg) v u = richCompare (opOf neg) v u := by cases neg <;> rfl
theorem opd_eqL1 (neg : Bool) (M : MF X.prog X.w X.K X.mg X.base C "__eq__" k f fd ps d) (E0 : EqC X.K C) (hr : Room j X.A) (hgd : X.A.guards = some []) (hk : k + 1 ≤ j) : OpD X (compareOp (opOf neg)) (xEqL1 X.K neg C d) := by
  have hr1 : Room (k + 1) X.A := hr.mono hk
  refine ⟨fun x y H Q => ∃ a dx fs t, x = .ref a ∧ H a = some (.ins C dx fs) ∧ TyX X.K H y t ∧ PySem.W.notFirst X.K C t = true ∧ cz X.K d [x, y] H (fun v H' => ∃ k, v = .bl k ∧ Q (.bl (neg != k)) H') (fun _ _ _ => False), ?_, fun {G m H v w y z F Q} rh rv rw hx cv => ?_⟩
  · intro pins s σ H x y v u Q I rx ry ⟨a, dx, fs, t, ex, ea, ty, hn, q⟩
    subst ex
    cases rx
    rw [cmpOf]
    obtain ⟨mA, O, _⟩ := ins_get I.hok ea
    obtain ⟨od, J, _⟩ := O.look
    obtain ⟨Pk, Z, pk, _⟩ := kit_of I ry ty
    exact PySem.W.cmp_left (by have := hr1.un; omega) I.kIn J (Z.ty _ _ I.kIn pk) hn (own_try neg M E0 hr1 hgd I ea ry q)
  · obtain ⟨a, dx, gs, t, rfl, hm, hy, hn, q⟩ := hx
    cases rv.loc
    obtain ⟨fs, hH, hf⟩ := rh.ins hm
    exact ⟨a, dx, fs, t, rfl, hH, tyO_ok rh rw hy, hn, G, m, [.l a, z], _, _, rh, .cons rv (.cons rw .nil), q, fun v y G1 m1 H1 e1 rh1 rv1 ⟨k, e, f⟩ => by subst e; exact ⟨k, by cases rv1.da; rfl, cv _ _ G1 m1 H1 e1 rh1 (.d (.bl _)) f⟩, fun _ _ _ _ _ _ _ _ _ z => z⟩
theorem opd_eqR1 (neg : Bool) (M : MF X.prog X.w X.K X.mg X.base C "__eq__" k f fd ps d) (E0 : EqC X.K C) (hr : Room j X.A) (hgd : X.A.guards = some []) (hk : k + 1 ≤ j) : OpD X (compareOp (opOf neg)) (xEqR1 X.K neg C d) := by
  have hr1 : Room (k + 1) X.A := hr.mono hk
  refine ⟨fun x y H Q => ∃ a B dx fs b dy gs, x = .ref a ∧ H a = some (.ins B dx fs) ∧ y = .ref b ∧ H b = some (.ins C dy gs) ∧ (Value.ref B != Value.ref C) = true ∧ PySem.W.subIn X.K (.ref C) (.ref B) = some true ∧ cz X.K d [y, x] H (fun v H' => ∃ k, v = .bl k ∧ Q (.bl (neg != k)) H') (fun _ _ _ => False), ?_, fun {G m H v w y z F Q} rh rv rw hx cv => ?_⟩
  · intro pins s σ H x y v u Q I rx ry ⟨a, B, dx, fs, b, dy, gs, ex, ea, ey, eb, hn, hs, q⟩
    subst ex ey
    cases rx
    cases ry
    rw [cmpOf]
    obtain ⟨mA, O, _⟩ := ins_get I.hok ea
    obtain ⟨od, J, _⟩ := O.look
    obtain ⟨mB, O2, _⟩ := ins_get I.hok eb
    obtain ⟨od2, J2, _⟩ := O2.look
    refine PySem.W.cmp_right (by have := hr1.un; omega) I.kIn J J2 hn hs ?_
    have e : (cmpInfo (opOf neg)).2.2 = (cmpInfo (opOf neg)).2.1 := by cases neg <;> rfl
    rw [e]
    exact own_try neg M E0 hr1 hgd I eb (show L2.RelV (V.ref a) (Value.ref a) from rfl) q
  · obtain ⟨a, B, dx, gs, b, dy, hs, rfl, hm, rfl, hm2, hn, hsub, q⟩ := hx
    cases rv.loc
    cases rw.loc
    obtain ⟨fs, hH, hf⟩ := rh.ins hm
    obtain ⟨fs2, hH2, hf2⟩ := rh.ins hm2
    exact ⟨a, B, dx, fs, b, dy, fs2, rfl, hH, rfl, hH2, hn, hsub, G, m, [.l b, .l a], _, _, rh, .cons rw (.cons rv .nil), q, fun v y G1 m1 H1 e1 rh1 rv1 ⟨k, e, f⟩ => by subst e; exact ⟨k, by cases rv1.da; rfl, cv _ _ G1 m1 H1 e1 rh1 (.d (.bl _)) f⟩, fun _ _ _ _ _ _ _ _ _ z => z⟩
theorem keqL (K : PySem.W.Frag) (neg : Bool) (M : MF X.prog X.w X.K X.mg X.base C "__eq__" k f fd ps d) (E0 : EqC X.K C) (hr : Room j X.A) (hgd : X.A.guards = some []) (hk : k + 1 ≤ j := by decide) (hK : X.K = K := by rfl) : OpD X (compareOp (opOf neg)) (xEqL1 K neg C d) := by
  subst hK; exact opd_eqL1 neg M E0 hr hgd hk
theorem keqR (K : PySem.W.Frag) (neg : Bool) (M : MF X.prog X.w X.K X.mg X.base C "__eq__" k f fd ps d) (E0 : EqC X.K C) (hr : Room j X.A) (hgd : X.A.guards = some []) (hk : k + 1 ≤ j := by decide) (hK : X.K = K := by rfl) : OpD X (compareOp (opOf neg)) (xEqR1 K neg C d) := by
  subst hK; exact opd_eqR1 neg M E0 hr hgd hk
end
end Dl
namespace Dl
open PySem PySem.Spec PyProof.Rows L2 Evl
abbrev top (i : Nat) : Stmt := PySem.Challenge.pw_eventsim_k17_lines_equal.main.body.getD i (.Pass ⟨0, 0, 0, 0⟩)
structure TxtS (K : PySem.W.Frag) (mg : Str → Option Value) : Prop where
  b_isinstance : mg "isinstance" = none
  b_int : mg "int" = none
  b_bool : mg "bool" = none
  b_len : mg "len" = none
  b_tuple : mg "tuple" = none
  b_enumerate : mg "enumerate" = none
  b_max : mg "max" = none
  b_repr : mg "repr" = none
  b_sorted : mg "sorted" = none
  b_range : mg "range" = none
  b_super : mg "super" = none
  b_str : mg "str" = none
  c_LAST_PROCESS : ∃ t, mg "LAST_PROCESS" = some (.int 5 t)
  c_LAST_RANK : ∃ t, mg "LAST_RANK" = some (.int 9 t)

/-! ### a line as a list of requests -/
structure Rq where
  rank : Int
  proc : Int
  held : Bool
abbrev ri (i : Int) : PyData := .int i
abbrev rqD (r : Rq) : PyData := .tuple [ri r.rank, ri r.proc, .bool r.held]
abbrev pairD (r : Rq) : PyData := .tuple [ri r.rank, ri r.proc]
abbrev rqY (r : Rq) : Y := .d (rqD r)
def heldL (rs : List Rq) : List PyData := (rs.filter (·.held)).map pairD
def sv0 (rs : List Rq) : List Nat := rs.zipIdx.filterMap fun p => if p.1.held then none else some p.2
/-- is the data a whole number in these bounds -/
def isB (d : PyData) (lo hi : Int) : Bool := match d with
  | .int x => decide (lo ≤ x) && decide (x ≤ hi)
  | _ => false
/-- the last request of this process that holds a unit -/
def ownL (rs : List Rq) (i : Int) : List Nat := rs.zipIdx.filterMap fun p => if p.1.held && decide (p.1.proc = i) then some p.2 else none
def lastH (rs : List Rq) (i : Int) : Option Nat := (ownL rs i).getLast?
def heldN (rs : List Rq) : Nat := (rs.filter (·.held)).length
def waitL (sv : List Rq → List Nat) (rs : List Rq) : List PyData := (sv rs).filterMap fun i => rs[i]?.map pairD
/-- a request more; a request less: what is left, and what is answered -/
def askF (u : Int) (rs : List Rq) (i k : Int) : List Rq := rs ++ [⟨k, i, decide (0 < u - (heldN rs : Int))⟩]
def endF (sv : List Rq → List Nat) (rs : List Rq) : List Rq × PyData := match sv rs with
  | [] => (rs, .none)
  | k :: _ => match rs[k]? with
    | none => (rs, .none)
    | some q => (rs.set k { q with held := true }, ri q.proc)
def relF (sv : List Rq → List Nat) (rs : List Rq) (i : Int) : Option (List Rq × PyData) := (lastH rs i).map fun j => endF sv (rs.eraseIdx j)
/-! ### facts of the text -/
structure TxtL (K : PySem.W.Frag) (mg : Str → Option Value) : Prop where
  b_isinstance : mg "isinstance" = none
  b_int : mg "int" = none
  b_bool : mg "bool" = none
  b_len : mg "len" = none
  b_tuple : mg "tuple" = none
  b_enumerate : mg "enumerate" = none
  b_max : mg "max" = none
  b_repr : mg "repr" = none
  b_sorted : mg "sorted" = none
  b_range : mg "range" = none
  b_super : mg "super" = none
  c_LAST_PROCESS : ∃ t, mg "LAST_PROCESS" = some (.int 5 t)
  c_LAST_RANK : ∃ t, mg "LAST_RANK" = some (.int 9 t)
structure Lin (K : PySem.W.Frag) (C : Addr) : Prop where
  cl : Cls K C
  nU : NoAttr K C "_units"
  nR : NoAttr K C "_requests"
  mU : ∃ t, Con K C "MOST_UNITS" (.int 3) (.int 3 t)
abbrev flds (u : Int) (p : Addr) : List (Str × Y) := [("_units", .d (.int u)), ("_requests", .l p)]
/-- a line stands at a, its list at p -/
structure At (C : Addr) (m : Mu) (a : Addr) (u : Int) (p : Addr) (rs : List Rq) : Prop where
  ob : ∃ dx, m a = some (.ins C dx (flds u p))
  ls : m p = some (.lst (rs.map rqY))
theorem At.le {C a p : Addr} {m m' : Mu} {u : Int} {rs : List Rq} (h : At C m a u p rs) (l : Mle m m') : At C m' a u p rs := ⟨h.ob.imp fun _ q => l _ _ q, l _ _ h.ls⟩
theorem At.ne {C a p : Addr} {m : Mu} {u : Int} {rs : List Rq} (h : At C m a u p rs) : a ≠ p := fun e => by
  obtain ⟨dx, h1⟩ := h.ob
  have h2 := h.ls
  subst e
  rw [h1] at h2
  cases h2


theorem fl_u (u : Int) (p : Addr) : (flds u p).lookup ("_units" : Str) = some (.d (.int u)) := look_here (by decide +kernel)
theorem fl_r (u : Int) (p : Addr) : (flds u p).lookup ("_requests" : Str) = some (.l p) := (look_past (by decide +kernel)).trans (look_here (by decide +kernel))
theorem fl_no (u : Int) (p : Addr) {x : Str} (h1 : (x == "_units") = false) (h2 : (x == "_requests") = false) : (flds u p).lookup x = none := (look_past h1).trans (look_past h2)
/-- what stands outside S stays -/



abbrev rowY (r : Rq) : List Y := [.d (ri r.rank), .d (ri r.proc), .d (.bool r.held)]
/-- the law's own list of requests -/
structure LAt (m : Mu) (q : Addr) (bs : List Addr) (rs : List Rq) : Prop where
  ls : m q = some (.lst (bs.map Y.l))
  rows : Paired (fun b r => m b = some (.lst (rowY r))) bs rs
  nd : (q :: bs).Nodup
theorem rows_get {m : Mu} : ∀ {bs : List Addr} {rs : List Rq}, Paired (fun b r => m b = some (.lst (rowY r))) bs rs → ∀ {i : Nat} {b : Addr}, bs[i]? = some b → ∃ r, rs[i]? = some r ∧ m b = some (.lst (rowY r))
  | _, _, .nil, i, b, e => by simp at e
  | _, _, .cons h t, 0, b, e => by simp at e; subst e; exact ⟨_, rfl, h⟩
  | _, _, .cons h t, i + 1, b, e => by
    obtain ⟨r, h1, h2⟩ := rows_get t (i := i) (b := b) (by simpa using e)
    exact ⟨r, by simpa using h1, h2⟩
theorem rows_get' {m : Mu} : ∀ {bs : List Addr} {rs : List Rq}, Paired (fun b r => m b = some (.lst (rowY r))) bs rs → ∀ {i : Nat} {r : Rq}, rs[i]? = some r → ∃ b, bs[i]? = some b ∧ m b = some (.lst (rowY r))
  | _, _, .nil, i, b, e => by simp at e
  | _, _, .cons h t, 0, b, e => by simp at e; subst e; exact ⟨_, rfl, h⟩
  | _, _, .cons h t, i + 1, b, e => by
    obtain ⟨r, h1, h2⟩ := rows_get' t (i := i) (r := b) (by simpa using e)
    exact ⟨r, by simpa using h1, h2⟩
theorem rows_mem {m : Mu} {bs : List Addr} {rs : List Rq} (h : Paired (fun b r => m b = some (.lst (rowY r))) bs rs) {b : Addr} (hb : b ∈ bs) : ∃ r, r ∈ rs ∧ m b = some (.lst (rowY r)) := by
  obtain ⟨i, hi⟩ := List.getElem?_of_mem hb
  obtain ⟨r, h1, h2⟩ := rows_get h hi
  exact ⟨r, List.mem_of_getElem? h1, h2⟩
theorem rows_len {m : Mu} : ∀ {bs : List Addr} {rs : List Rq}, Paired (fun b r => m b = some (.lst (rowY r))) bs rs → bs.length = rs.length
  | _, _, .nil => rfl
  | _, _, .cons _ t => congrArg Nat.succ (rows_len t)
theorem rows_le {m m' : Mu} : ∀ {bs : List Addr} {rs : List Rq}, (∀ b ∈ bs, ∀ o, m b = some o → m' b = some o) → Paired (fun b r => m b = some (.lst (rowY r))) bs rs → Paired (fun b r => m' b = some (.lst (rowY r))) bs rs
  | _, _, _, .nil => .nil
  | _, _, l, .cons h t => .cons (l _ (by simp) _ h) (rows_le (fun b hb => l b (by simp [hb])) t)
theorem LAt.le {m m' : Mu} {q : Addr} {bs : List Addr} {rs : List Rq} (h : LAt m q bs rs) (l : Mle m m') : LAt m' q bs rs := ⟨l _ _ h.ls, rows_le (fun b _ o e => l b o e) h.rows, h.nd⟩
theorem At.fr {C a p : Addr} {m m' : Mu} {u : Int} {rs : List Rq} {S : Addr → Prop} (h : At C m a u p rs) (l : Fr S m m') (ha : ¬ S a) (hp : ¬ S p) : At C m' a u p rs := ⟨h.ob.imp fun _ q => l _ _ ha q, l _ _ hp h.ls⟩
/-- places in the list -/
structure Sv (sv : List Rq → List Nat) : Prop where
  lt : ∀ rs, ∀ i ∈ sv rs, i < rs.length
  len : ∀ rs, (sv rs).length ≤ rs.length
/-- the order of the waiting requests, by ranks times k -/
def wPairs (k : Int) (rs : List Rq) : List (Int × Int) := rs.zipIdx.filterMap fun p => if p.1.held then none else some (p.1.rank * k, (p.2 : Int))
def svR (k : Int) (rs : List Rq) : List Nat := (srt (wPairs k rs)).map fun p => p.2.toNat
theorem wPairs_lt {k : Int} {rs : List Rq} {p : Int × Int} (h : p ∈ wPairs k rs) : ∃ n : Nat, p.2 = (n : Int) ∧ n < rs.length := by
  obtain ⟨⟨r, n⟩, h1, h2⟩ := List.mem_filterMap.mp h
  split at h2
  · cases h2
  · cases h2
    refine ⟨n, rfl, ?_⟩
    have := (List.mem_zipIdx h1).2.1
    omega
theorem srt_mem {ps : List (Int × Int)} {p : Int × Int} (h : p ∈ srt ps) : p ∈ ps := (List.mergeSort_perm ps lexLe).mem_iff.mp h
theorem srt_len (ps : List (Int × Int)) : (srt ps).length = ps.length := (List.mergeSort_perm ps lexLe).length_eq
theorem wPairs_len (k : Int) (rs : List Rq) : (wPairs k rs).length ≤ rs.length := by
  have := List.length_filterMap_le (fun p : Rq × Nat => if p.1.held then none else some (p.1.rank * k, (p.2 : Int))) rs.zipIdx
  rwa [List.length_zipIdx] at this
theorem sv_svR (k : Int) : Sv (svR k) := ⟨fun rs i hi => by
    obtain ⟨p, hp, rfl⟩ := List.mem_map.mp hi
    obtain ⟨n, e, h⟩ := wPairs_lt (srt_mem hp)
    rw [e, Int.toNat_natCast]; exact h,
  fun rs => by unfold svR; rw [List.length_map, srt_len]; exact wPairs_len k rs⟩

theorem svR0 (rs : List Rq) : svR 0 rs = sv0 rs := by
  have e : srt (wPairs 0 rs) = wPairs 0 rs := by
    refine srt_uniq ?_ (List.Perm.refl _)
    unfold wPairs
    refine List.pairwise_filterMap.mpr ((zip_lt rs 0).imp fun {a b} h x hx y hy => ?_)
    split at hx
    · cases hx
    · split at hy
      · cases hy
      · cases hx; cases hy
        unfold lexLe
        have : SrtO.lexB (b.1.rank * 0, (b.2 : Int)) (a.1.rank * 0, (a.2 : Int)) = false := SrtO.lexB_no.mpr (by simp; omega)
        rw [this]; rfl
  unfold svR
  rw [e]
  unfold wPairs sv0
  rw [List.map_filterMap]
  congr 1
  funext p
  cases h : p.1.held <;> simp
theorem sv_sv0 : Sv sv0 := by
  have e : svR 0 = sv0 := funext svR0
  rw [← e]; exact sv_svR 0
theorem LAt.ne {m : Mu} {q b : Addr} {bs : List Addr} {rs : List Rq} (h : LAt m q bs rs) (hb : b ∈ bs) : b ≠ q := fun e => by
  subst e; exact (List.nodup_cons.mp h.nd).1 hb
/-- a row more -/
theorem LAt.ask {m m' : Mu} {q b : Addr} {bs : List Addr} {rs : List Rq} {r : Rq} (h : LAt m q bs rs) (hb : m b = none) (l : Mle (mu (mu m b (.lst (rowY r))) q (.lst ((bs ++ [b]).map Y.l))) m') : LAt m' q (bs ++ [b]) (rs ++ [r]) ∧ Fr (fun x => x = q) m m' := by
  have bq : b ≠ q := fun e => by subst e; have := h.ls; rw [hb] at this; cases this
  have nb : ∀ x ∈ bs, x ≠ b := fun x hx e => by
    subst e
    obtain ⟨r, _, h2⟩ := rows_mem h.rows hx
    rw [hb] at h2; cases h2
  have fr : Fr (fun x => x = q) m m' := fun x o hx e => l _ _ (by
    rw [mu_ne hx, mu_ne]; exact e
    intro z; subst z; rw [hb] at e; cases e)
  refine ⟨⟨l _ _ mu_same, ?_, ?_⟩, fr⟩
  · have app : ∀ {bs : List Addr} {rs : List Rq}, Paired (fun b r => m' b = some (.lst (rowY r))) bs rs → Paired (fun b r => m' b = some (.lst (rowY r))) (bs ++ [b]) (rs ++ [r]) := by
      intro bs rs hh
      induction hh with
      | nil => exact .cons (l _ _ (by rw [mu_ne bq]; exact mu_same)) .nil
      | cons h t ih => exact .cons h ih
    exact app (rows_le (fun x hx o e => fr x o (h.ne hx) e) h.rows)
  · have nd := h.nd
    rw [List.nodup_cons] at nd ⊢
    refine ⟨fun z => ?_, ?_⟩
    · rcases List.mem_append.mp z with z | z
      · exact nd.1 z
      · exact bq (List.mem_singleton.mp z).symm
    · rw [List.nodup_append]
      refine ⟨nd.2, by simp, fun x hx y hy e => ?_⟩
      have := List.mem_singleton.mp hy
      subst this
      exact nb x hx e
theorem Paired.erase' {α β : Type} {R : α → β → Prop} : ∀ {xs : List α} {ys : List β} (n : Nat), Paired R xs ys → Paired R (xs.eraseIdx n) (ys.eraseIdx n)
  | _, _, _, .nil => .nil
  | _, _, 0, .cons _ t => t
  | _, _, n + 1, .cons h t => .cons h (Paired.erase' n t)
/-- a row less -/
theorem LAt.erase {m m' : Mu} {q : Addr} {bs : List Addr} {rs : List Rq} {j : Nat} (h : LAt m q bs rs) (l : Mle (mu m q (.lst ((bs.eraseIdx j).map Y.l))) m') : LAt m' q (bs.eraseIdx j) (rs.eraseIdx j) ∧ Fr (fun x => x = q) m m' := by
  have fr : Fr (fun x => x = q) m m' := fun x o hx e => l _ _ (by rw [mu_ne hx]; exact e)
  have sub : (bs.eraseIdx j).Sublist bs := List.eraseIdx_sublist _ _
  refine ⟨⟨l _ _ mu_same, Paired.erase' j (rows_le (fun x hx o e => fr x o (h.ne hx) e) h.rows), ?_⟩, fr⟩
  exact h.nd.sublist (sub.cons₂ q)
/-- a row changed -/
theorem LAt.put {m m' : Mu} {q b : Addr} {bs : List Addr} {rs : List Rq} {j : Nat} {r : Rq} (h : LAt m q bs rs) (hb : bs[j]? = some b) (l : Mle (mu m b (.lst (rowY r))) m') : LAt m' q bs (rs.set j r) ∧ Fr (fun x => x ∈ bs) m m' := by
  have hbm := List.mem_of_getElem? hb
  have fr : Fr (fun x => x = b) m m' := fun x o hx e => l _ _ (by rw [mu_ne hx]; exact e)
  refine ⟨⟨fr _ _ (fun e => h.ne hbm e.symm) h.ls, ?_, h.nd⟩, fun x o hx e => fr x o (fun z => hx (z ▸ hbm)) e⟩
  have go : ∀ {bs : List Addr} {rs : List Rq} {j : Nat}, bs.Nodup → bs[j]? = some b → Paired (fun b r => m b = some (.lst (rowY r))) bs rs → Paired (fun b r => m' b = some (.lst (rowY r))) bs (rs.set j r) := by
    intro bs
    induction bs with
    | nil => intro rs j _ e; simp at e
    | cons x bs ih =>
      intro rs j nd e hh
      cases hh with
      | cons h1 t =>
        rw [List.nodup_cons] at nd
        cases j with
        | zero =>
          simp at e
          subst e
          exact .cons (l _ _ mu_same) (rows_le (fun y hy o e => fr y o (fun z => nd.1 (z ▸ hy)) e) t)
        | succ j =>
          have e' : bs[j]? = some b := by simpa using e
          exact .cons (fr _ _ (fun z => nd.1 (z ▸ List.mem_of_getElem? e')) h1) (ih nd.2 e' t)
  exact go (List.nodup_cons.mp h.nd).2 hb h.rows
section
variable {P : Program} {w : World} {K : PySem.W.Frag} {mg : Str → Option Value} {base : Heap}


abbrev s_is_between : Stmt := top 8
abbrev N_is_between : List Str := ["thing", "low", "high"]
theorem sc_is_between : FnScope N_is_between ["thing", "low", "high"] (defScope s_is_between) := ⟨rfl, rfl, rfl, by decide +kernel, rfl, by decide +kernel, by decide +kernel⟩
def d_is_between : DSp := fun ys m F _ => ∃ d lo hi, ys = [.d d, .d (.int lo), .d (.int hi)] ∧ F (.d (.bool (isB d lo hi))) m
theorem ok_is_between {f : Addr} {fd : FuncData} (F : Fun K "is_between" "is_between" s_is_between f fd) (T : TxtS K mg)  : FnD P w K mg base 1 f fd ["thing", "low", "high"] d_is_between := by
  refine Dl.Fun.dok F sc_is_between _ (fun cdv A outer s H E B hp =>
      (dss_cons (ds_if (DW.dt (dw_or (dt_not (dt_tru (de_cb (kisi K) rfl T.b_isinstance boot_isinstance (da_cons (de_var (pv 0)) (da_cons (de_ty rfl T.b_int boot_int) da_nil))))) (dw_or1 (dt_tru (de_cb (kisi K) rfl T.b_isinstance boot_isinstance (da_cons (de_var (pv 0)) (da_cons (de_ty rfl T.b_bool boot_bool) da_nil)))))))
      (dss_one (ds_ret (de_bl)))
      dss_nil)
      (dss_one (ds_ret (de_and (de_cmp opd_le (de_var (pv 1)) (de_var (pv 0)) (nomark _)) (de_one (de_or (de_cmp opd_isN (de_var (pv 2)) (de_non) (nomark _)) (de_one (de_cmp opd_le (de_var (pv 0)) (de_var (pv 2)) (nomark _)))))))))) (fun ys m F P h => ?_)
  obtain ⟨d, lo, hi, rfl, h⟩ := h
  refine ⟨rfl, _, rfl, _, _, _, rfl, isi_int d, _, rfl, ?_⟩
  cases d with
  | int x =>
    refine ⟨_, rfl, _, _, _, rfl, isi_bool _, _, rfl, _, rfl, _, rfl, _, rfl, ?_⟩
    unfold isB at h
    by_cases h1 : lo ≤ x
    · rw [if_pos (by simpa using h1)]
      refine ⟨_, rfl, rfl, _, rfl, _, rfl, _, rfl, ?_⟩
      simpa [h1] using h
    · rw [if_neg (by simpa using h1)]
      simpa [h1] using h
  | bool b => exact ⟨_, rfl, _, _, _, rfl, isi_bool _, _, rfl, h⟩
  | _ => exact h
abbrev s_check_number : Stmt := top 9
abbrev N_check_number : List Str := ["thing", "low", "high", "name"]
theorem sc_check_number : FnScope N_check_number ["thing", "low", "high", "name"] (defScope s_check_number) := ⟨rfl, rfl, rfl, by decide +kernel, rfl, by decide +kernel, by decide +kernel⟩
def d_check_number : DSp := fun ys m F _ => ∃ d lo hi n, ys = [.d d, .d (.int lo), .d (.int hi), .d (.str n)] ∧ isB d lo hi = true ∧ F (.d .none) m
theorem ok_check_number {f : Addr} {fd : FuncData} (F : Fun K "check_number" "check_number" s_check_number f fd) (T : TxtS K mg) {f1 : Addr} {fd1 : FuncData} (G_is_between : GF P w K mg base "is_between" 1 f1 fd1 ["thing", "low", "high"] d_is_between) : FnD P w K mg base 2 f fd ["thing", "low", "high", "name"] d_check_number := by
  refine Dl.Fun.dok F sc_check_number _ (fun cdv A outer s H E B hp =>
      (dss_one (ds_if (dt_not (dt_tru (de_gf G_is_between B.hr B.gd B.tk rfl (da_cons (de_var (pv 0)) (da_cons (de_var (pv 1)) (da_cons (de_var (pv 2)) da_nil))))))
      (dss_one (ds_never))
      dss_nil))) (fun ys m F P h => ?_)
  obtain ⟨d, lo, hi, n, rfl, hb, h⟩ := h
  refine ⟨rfl, _, rfl, _, rfl, _, rfl, _, _, _, rfl, _, rfl, ?_⟩
  rw [hb]
  exact h
abbrev s_check_process : Stmt := top 11
abbrev N_check_process : List Str := ["process"]
theorem sc_check_process : FnScope N_check_process ["process"] (defScope s_check_process) := ⟨rfl, rfl, rfl, by decide +kernel, rfl, by decide +kernel, by decide +kernel⟩
def d_check_process : DSp := fun ys m F _ => ∃ i, ys = [.d (.int i)] ∧ 0 ≤ i ∧ i ≤ 5 ∧ F (.d .none) m
theorem ok_check_process {f : Addr} {fd : FuncData} (F : Fun K "_check_process" "_check_process" s_check_process f fd) (T : TxtS K mg) {f1 : Addr} {fd1 : FuncData} (G_check_number : GF P w K mg base "check_number" 2 f1 fd1 ["thing", "low", "high", "name"] d_check_number) : FnD P w K mg base 3 f fd ["process"] d_check_process := by
  refine Dl.Fun.dok F sc_check_process _ (fun cdv A outer s H E B hp =>
      (dss_one (ds_expr (de_gf G_check_number B.hr B.gd B.tk rfl (da_cons (de_var (pv 0)) (da_cons (de_int) (da_cons (de_gi rfl T.c_LAST_PROCESS) (da_cons (de_str) da_nil)))))))) (fun ys m F P h => ?_)
  obtain ⟨i, rfl, h0, h1, h⟩ := h
  exact ⟨rfl, _, rfl, _, _, _, _, rfl, by simp [isB, h0, h1], h⟩
abbrev s_check_rank : Stmt := top 12
abbrev N_check_rank : List Str := ["rank"]
theorem sc_check_rank : FnScope N_check_rank ["rank"] (defScope s_check_rank) := ⟨rfl, rfl, rfl, by decide +kernel, rfl, by decide +kernel, by decide +kernel⟩
def d_check_rank : DSp := fun ys m F _ => ∃ i, ys = [.d (.int i)] ∧ 0 ≤ i ∧ i ≤ 9 ∧ F (.d .none) m
theorem ok_check_rank {f : Addr} {fd : FuncData} (F : Fun K "_check_rank" "_check_rank" s_check_rank f fd) (T : TxtS K mg) {f1 : Addr} {fd1 : FuncData} (G_check_number : GF P w K mg base "check_number" 2 f1 fd1 ["thing", "low", "high", "name"] d_check_number) : FnD P w K mg base 3 f fd ["rank"] d_check_rank := by
  refine Dl.Fun.dok F sc_check_rank _ (fun cdv A outer s H E B hp =>
      (dss_one (ds_expr (de_gf G_check_number B.hr B.gd B.tk rfl (da_cons (de_var (pv 0)) (da_cons (de_int) (da_cons (de_gi rfl T.c_LAST_RANK) (da_cons (de_str) da_nil)))))))) (fun ys m F P h => ?_)
  obtain ⟨i, rfl, h0, h1, h⟩ := h
  exact ⟨rfl, _, rfl, _, _, _, _, rfl, by simp [isB, h0, h1], h⟩
abbrev s_init : Stmt := inClass (top 14) 1
abbrev N_init : List Str := ["self", "units"]
theorem sc_init : FnScope N_init ["self", "units"] (defScope s_init) := ⟨rfl, rfl, rfl, by decide +kernel, rfl, by decide +kernel, by decide +kernel⟩
def d_init (C : Addr) : DSp := fun ys m F _ => ∃ a dx u, ys = [.l a, .d (.int u)] ∧ 1 ≤ u ∧ u ≤ 3 ∧ m a = some (.ins C dx []) ∧ ∀ p m', m p = none → At C m' a u p [] → Mle (mu (mu m p (.lst [])) a (.ins C dx (flds u p))) m' → F (.d .none) m'
theorem ok_init {f : Addr} {fd : FuncData} (F : Fun K "__init__" "Line.__init__" s_init f fd) (T : TxtS K mg) {C : Addr} (L : Lin K C) {f1 : Addr} {fd1 : FuncData} (G_check_number : GF P w K mg base "check_number" 2 f1 fd1 ["thing", "low", "high", "name"] d_check_number) : FnD P w K mg base 3 f fd ["self", "units"] (d_init C) := by
  refine Dl.Fun.dok F sc_init _ (fun cdv A outer s H E B hp =>
      (dss_cons (ds_expr (de_gf G_check_number B.hr B.gd B.tk rfl (da_cons (de_var (pv 1)) (da_cons (de_int) (da_cons (kcon K (de_var (pv 0))) (da_cons (de_str) da_nil))))))
      (dss_cons (ksetF K (de_var (pv 0)) (de_var (pv 1)))
      (dss_one (ksetF K (de_var (pv 0)) (de_lstM da_nil)))))) (fun ys m F P h => ?_)
  obtain ⟨a, dx, u, rfl, h1, h2, ha, h⟩ := h
  obtain ⟨t, hM⟩ := L.mU
  refine ⟨rfl, _, rfl, _, rfl, a, C, dx, _, _, _, _, rfl, ha, L.cl, hM, rfl, fun G => .d (.int 3), _, _, _, _, rfl, by simp [isB, h1, h2], ?_⟩
  refine ⟨_, rfl, _, rfl, a, C, dx, _, rfl, ha, L.cl, L.nU, by decide, ?_⟩
  refine ⟨by decide, fun p hp => ?_⟩
  have np : a ≠ p := fun e => by subst e; rw [mu_same] at hp; cases hp
  have hp' : m p = none := by rwa [mu_ne np.symm] at hp
  refine ⟨_, rfl, a, C, dx, _, rfl, (mu_ne np).trans mu_same, L.cl, L.nR, Nat.le_of_ble_eq_true rfl, ?_⟩
  have e1 : putY ("_requests" : Str) (.l p) (putY ("_units" : Str) (.d (.int u)) []) = flds u p := by
    show (if ("_units" : Str) = "_requests" then _ else (("_units" : Str), Y.d (.int u)) :: putY ("_requests" : Str) (.l p) []) = _
    rw [if_neg (by decide +kernel)]
    rfl
  refine h p _ hp' ⟨⟨dx, mu_same.trans (by rw [e1])⟩, (mu_ne np.symm).trans mu_same⟩ fun b o e => ?_
  rw [e1]
  by_cases q : b = a
  · subst q; rw [mu_same] at e ⊢; exact e
  · rw [mu_ne q] at e ⊢
    by_cases q2 : b = p
    · subst q2; rw [mu_same] at e ⊢; exact e
    · rw [mu_ne q2] at e ⊢; rw [mu_ne q]; exact e
abbrev s_holders : Stmt := inClass (top 14) 8
abbrev N_holders : List Str := ["self", "rank", "process", "holds"]
theorem sc_holders : FnScope N_holders ["self"] (defScope s_holders) := ⟨rfl, rfl, rfl, by decide +kernel, rfl, by decide +kernel, by decide +kernel⟩
def hHeld : Y → Option Y
  | .d (.tuple [x, y, .bool true]) => some (.d (.tuple [x, y]))
  | _ => none
theorem hHeld_all : ∀ rs : List Rq, (rs.map rqY).filterMap hHeld = (heldL rs).map Y.d
  | [] => rfl
  | ⟨k, i, true⟩ :: rs => congrArg (Y.d (.tuple [ri k, ri i]) :: ·) (hHeld_all rs)
  | ⟨k, i, false⟩ :: rs => hHeld_all rs
theorem heldL_len (rs : List Rq) : (heldL rs).length = heldN rs := List.length_map _
theorem heldN_le (rs : List Rq) : heldN rs ≤ rs.length := List.length_filter_le _ _
def d_holders (C : Addr) : DSp := fun ys m F _ => ∃ a u p rs, ys = [.l a] ∧ At C m a u p rs ∧ rs.length ≤ 5000 ∧ ∀ m', Mle m m' → F (.d (.tuple (heldL rs))) m'
theorem ok_holders {f : Addr} {fd : FuncData} (F : Fun K "holders" "Line.holders" s_holders f fd) (T : TxtS K mg) {C : Addr} (L : Lin K C) : FnD P w K mg base 1 f fd ["self"] (d_holders C) := by
  refine Dl.Fun.dok F sc_holders _ (fun cdv A outer s H E B hp =>
      (dss_one (ds_ret (de_cty cd_tuple rfl T.b_tuple boot_tuple (da_cons (de_lc (fin := finD) finD_ok rfl sc_holders.nd (di_seq (kfld K (de_var (pv 0)))) (blkOk_by (own := [("rank", 1), ("process", 2), ("holds", 3)]) (N := N_holders) (sc := defScope s_holders) (by decide +kernel)) (fun _ _ _ _ _ => pg_tup (n := 3) rfl (pgs_cons (pg_name (i := 1) sc_holders.nd rfl (by first | exact Or.inl rfl | exact Or.inr rfl)) (pgs_cons (pg_name (i := 2) sc_holders.nd rfl (by first | exact Or.inl rfl | exact Or.inr rfl)) (pgs_cons (pg_name (i := 3) sc_holders.nd rfl (by first | exact Or.inl rfl | exact Or.inr rfl)) pgs_nil)))) (dgw_tup (n := 3) (dgw_cons (dgw_name (i := 1) (by decide)) (dgw_cons (dgw_name (i := 2) (by decide)) (dgw_cons (dgw_name (i := 3) (by decide)) dgw_nil)))) (fun _ _ _ _ _ => dts_one (dt_tru (de_var (pv 3)))) (fun _ _ _ _ _ => de_tup (da_cons (de_var (pv 1)) (da_cons (de_var (pv 2)) da_nil)))) da_nil))))) (fun ys m F P h => ?_)
  obtain ⟨a, u, p, rs, rfl, A, hl, h⟩ := h
  obtain ⟨dx, ho⟩ := A.ob
  refine ⟨rfl, _, rfl, a, C, dx, _, _, rfl, ho, L.cl, L.nR, fl_r u p, rs.map rqY, .inl A.ls, ?_⟩
  refine lc_seq hHeld (by rw [List.length_map]; omega) (fun q e => by cases e; rw [A.ls]; exact Option.some_ne_none _) (fun z M hz hM C' N' hC hN => ?_) (fun D M hD hM => ?_)
  · obtain ⟨q, _, rfl⟩ := List.mem_map.mp hz
    refine tup3 ⟨_, _, rfl, _, _, rfl, _, _, rfl, rfl, _, rfl, q.held, rfl, ?_⟩
    obtain ⟨k, i, b⟩ := q
    cases b with
    | true => exact ⟨_, rfl, _, rfl, len2 _ _, hC _ M rfl Mle.refl⟩
    | false => exact hN M rfl Mle.refl
  · rw [hHeld_all] at hM ⊢
    refine ⟨_, rfl, _, rfl, .inr ⟨_, rfl, ?_⟩⟩
    unfold mkT
    rw [allD_map]
    exact h _ (((Mle.new hD).trans hM).drop hD)
abbrev s_free : Stmt := inClass (top 14) 4
abbrev N_free : List Str := ["self"]
theorem sc_free : FnScope N_free ["self"] (defScope s_free) := ⟨rfl, rfl, rfl, by decide +kernel, rfl, by decide +kernel, by decide +kernel⟩
def d_free (C : Addr) : DSp := fun ys m F _ => ∃ a u p rs, ys = [.l a] ∧ At C m a u p rs ∧ rs.length ≤ 5000 ∧ ∀ m', Mle m m' → F (.d (.int (u - (heldN rs : Int)))) m'
theorem ok_free {f : Addr} {fd : FuncData} (F : Fun K "free" "Line.free" s_free f fd) (T : TxtS K mg) {C : Addr} (L : Lin K C) {f1 : Addr} {fd1 : FuncData} (M_holders : MF P w K mg base C "holders" 3 f1 fd1 ["self"] (d_holders C)) : FnD P w K mg base 4 f fd ["self"] (d_free C) := by
  refine Dl.Fun.dok F sc_free _ (fun cdv A outer s H E B hp =>
      (dss_one (ds_ret (de_op opd_sub (kfld K (de_var (pv 0))) (de_cb cd_len rfl T.b_len boot_len (da_cons (de_mf0 (de_var (pv 0)) M_holders B.hr B.gd B.tk) da_nil)))))) (fun ys m F P h => ?_)
  obtain ⟨a, u, p, rs, rfl, A, hl, h⟩ := h
  obtain ⟨dx, ho⟩ := A.ob
  refine ⟨rfl, _, rfl, a, C, dx, _, _, rfl, ho, L.cl, L.nU, fl_u u p, _, rfl, a, dx, _, rfl, ho, fl_no u p (by decide +kernel) (by decide +kernel), a, u, p, rs, rfl, A, hl, fun m' hm' => ?_⟩
  refine ⟨_, (heldL rs).map Y.d, rfl, .inr rfl, ?_⟩
  rw [List.length_map, heldL_len]
  exact h m' hm'
abbrev s_served : Stmt := inClass (top 14) 13
abbrev N_served : List Str := ["self", "at", "row"]
theorem sc_served : FnScope N_served ["self"] (defScope s_served) := ⟨rfl, rfl, rfl, by decide +kernel, rfl, by decide +kernel, by decide +kernel⟩
def hWait (i : Nat) : Y → Option Y
  | .d (.tuple [_, _, .bool false]) => some (.d (ri (i : Nat)))
  | _ => none
theorem hWait_all (rs : List Rq) : (rs.map rqY).zipIdx.filterMap (fun p => hWait p.2 p.1) = ((sv0 rs).map fun i => ri (i : Nat)).map Y.d := by
  unfold sv0
  rw [List.zipIdx_map, List.filterMap_map, List.map_map, List.map_filterMap]
  congr 1
  funext p
  obtain ⟨⟨k, i, b⟩, n⟩ := p
  cases b <;> rfl
def d_served (C : Addr) (sv : List Rq → List Nat) : DSp := fun ys m F _ => ∃ a u p rs, ys = [.l a] ∧ At C m a u p rs ∧ rs.length ≤ 5000 ∧ ∀ m', Mle m m' → F (.d (.list ((sv rs).map fun i => ri (i : Nat)))) m'
theorem ok_served {f : Addr} {fd : FuncData} (F : Fun K "_served" "Line._served" s_served f fd) (T : TxtS K mg) {C : Addr} (L : Lin K C) : FnD P w K mg base 1 f fd ["self"] (d_served C sv0) := by
  refine Dl.Fun.dok F sc_served _ (fun cdv A outer s H E B hp =>
      (dss_one (ds_ret (de_lc (fin := finD) finD_ok rfl sc_served.nd (di_enum rfl T.b_enumerate (da_cons (kfld K (de_var (pv 0))) da_nil)) (blkOk_by (own := [("at", 1), ("row", 2)]) (N := N_served) (sc := defScope s_served) (by decide +kernel)) (fun _ _ _ _ _ => pg_tup (n := 2) rfl (pgs_cons (pg_name (i := 1) sc_served.nd rfl (by first | exact Or.inl rfl | exact Or.inr rfl)) (pgs_cons (pg_name (i := 2) sc_served.nd rfl (by first | exact Or.inl rfl | exact Or.inr rfl)) pgs_nil))) (dgw_tup (n := 2) (dgw_cons (dgw_name (i := 1) (by decide)) (dgw_cons (dgw_name (i := 2) (by decide)) dgw_nil))) (fun _ _ _ _ _ => dts_one (dt_not (dt_tru (de_ix (de_var (pv 2)) (de_int) (by intro _ _; rfl))))) (fun _ _ _ _ _ => de_var (pv 1)))))) (fun ys m F P h => ?_)
  obtain ⟨a, u, p, rs, rfl, A, hl, h⟩ := h
  obtain ⟨dx, ho⟩ := A.ob
  refine ⟨rfl, _, rfl, a, C, dx, _, _, rfl, ho, L.cl, L.nR, fl_r u p, _, rs.map rqY, rfl, A.ls, ?_⟩
  refine lc_enum hWait (by rw [List.length_map]; omega) (fun q e => by cases e; rw [A.ls]; exact Option.some_ne_none _) (fun j z M hz hM C' N' hC hN => ?_) (fun D M hD hM => ?_)
  · obtain ⟨q, _, rfl⟩ := List.mem_map.mp (List.mem_of_getElem? hz)
    obtain ⟨k, i, b⟩ := q
    refine tup2 (.inl ⟨_, _, rfl, rfl, rfl⟩) ⟨_, _, rfl, _, _, rfl, rfl, _, rfl, 2, _, .d (.bool b), rfl, rfl, rfl, b, tru_b b, ?_⟩
    cases b with
    | false => exact ⟨_, rfl, hC _ M rfl Mle.refl⟩
    | true => exact hN M rfl Mle.refl
  · rw [hWait_all] at hM ⊢
    exact fin_d _ rfl hD hM h
abbrev s_waiting : Stmt := inClass (top 14) 9
abbrev N_waiting : List Str := ["self", "at"]
theorem sc_waiting : FnScope N_waiting ["self"] (defScope s_waiting) := ⟨rfl, rfl, rfl, by decide +kernel, rfl, by decide +kernel, by decide +kernel⟩
def d_waiting (C : Addr) (sv : List Rq → List Nat) : DSp := fun ys m F _ => ∃ a u p rs, ys = [.l a] ∧ At C m a u p rs ∧ rs.length ≤ 5000 ∧ ∀ m', Mle m m' → F (.d (.tuple (waitL sv rs))) m'
theorem ok_waiting {f : Addr} {fd : FuncData} (F : Fun K "waiting" "Line.waiting" s_waiting f fd) (T : TxtS K mg) {C : Addr} {sv : List Rq → List Nat} (V : Sv sv) (L : Lin K C) {f1 : Addr} {fd1 : FuncData} (M_served : MF P w K mg base C "_served" 2 f1 fd1 ["self"] (d_served C sv)) : FnD P w K mg base 3 f fd ["self"] (d_waiting C sv) := by
  refine Dl.Fun.dok F sc_waiting _ (fun cdv A outer s H E B hp =>
      (dss_one (ds_ret (de_cty cd_tuple rfl T.b_tuple boot_tuple (da_cons (de_lc (fin := finD) finD_ok rfl sc_waiting.nd (di_seq (de_mf0 (de_var (pv 0)) M_served B.hr B.gd B.tk)) (blkOk_by (own := [("at", 1)]) (N := N_waiting) (sc := defScope s_waiting) (by decide +kernel)) (fun _ _ _ _ _ => pg_name (i := 1) sc_waiting.nd rfl (by first | exact Or.inl rfl | exact Or.inr rfl)) (dgw_name (i := 1) (by decide)) (fun _ _ _ _ _ => dts_nil) (fun _ _ _ _ _ => de_sl sld_T (de_ix (kfld K (de_var (pv 0))) (de_var (pv 1)) (by intro _ _; rfl)) do_none (do_some (de_int)))) da_nil))))) (fun ys m F P h => ?_)
  obtain ⟨a, u, p, rs, rfl, A, hl, h⟩ := h
  obtain ⟨dx, ho⟩ := A.ob
  refine ⟨rfl, _, rfl, a, dx, _, rfl, ho, fl_no u p (by decide +kernel) (by decide +kernel), a, u, p, rs, rfl, A, hl, fun m1 hm1 => ⟨_, rfl, ?_⟩⟩
  let hW : Y → Option Y := fun y => match y with
    | .d (.int i) => (rs[i.toNat]?).map fun q => .d (pairD q)
    | _ => none
  have hW_all : (((sv rs).map fun i => ri (i : Nat)).map Y.d).filterMap hW = (waitL sv rs).map Y.d := by
    unfold waitL
    rw [List.map_map, List.filterMap_map, List.map_filterMap]
    congr 1
    funext i
    show (rs[((i : Nat) : Int).toNat]?).map _ = _
    rw [Int.toNat_natCast, Option.map_map]
    rfl
  refine lc_seq hW (by rw [List.length_map, List.length_map]; exact Nat.le_trans (V.len rs) (by omega)) (fun q e => by cases e) (fun z M hz hM C' N' hC hN => ?_) (fun D M hD hM => ?_)
  · obtain ⟨_, hz1, rfl⟩ := List.mem_map.mp hz
    obtain ⟨i, hi, rfl⟩ := List.mem_map.mp hz1
    have hlt := V.lt rs i hi
    have A1 := (A.le hm1).le hM
    obtain ⟨dy, ho1⟩ := A1.ob
    have e1 : rs[i]? = some rs[i] := List.getElem?_eq_getElem hlt
    refine ⟨_, rfl, a, C, dy, _, _, rfl, ho1, L.cl, L.nR, fl_r u p, _, rfl, (i : Nat), rs.map rqY, rqY rs[i], rfl, .inl A1.ls, ?_, ?_⟩
    · unfold atI ixN
      rw [if_pos (Int.natCast_nonneg i), List.length_map, if_pos (by omega), Option.bind_some, Int.toNat_natCast, List.getElem?_map, e1]
      rfl
    · refine ⟨2, rfl, _, rfl, hC _ M ?_ Mle.refl⟩
      show (rs[((i : Nat) : Int).toNat]?).map _ = _
      rw [Int.toNat_natCast, e1]
      rfl
  · rw [hW_all] at hM ⊢
    refine ⟨_, rfl, _, rfl, .inr ⟨_, rfl, ?_⟩⟩
    unfold mkT
    rw [allD_map]
    exact h _ (hm1.trans (((Mle.new hD).trans hM).drop hD))
abbrev s_length : Stmt := inClass (top 14) 5
abbrev N_length : List Str := ["self"]
theorem sc_length : FnScope N_length ["self"] (defScope s_length) := ⟨rfl, rfl, rfl, by decide +kernel, rfl, by decide +kernel, by decide +kernel⟩
def d_length (C : Addr) (sv : List Rq → List Nat) : DSp := fun ys m F _ => ∃ a u p rs, ys = [.l a] ∧ At C m a u p rs ∧ rs.length ≤ 5000 ∧ ∀ m', Mle m m' → F (.d (.int (waitL sv rs).length)) m'
theorem ok_length {f : Addr} {fd : FuncData} (F : Fun K "length" "Line.length" s_length f fd) (T : TxtS K mg) {C : Addr} {sv : List Rq → List Nat} (V : Sv sv) (L : Lin K C) {f1 : Addr} {fd1 : FuncData} (M_waiting : MF P w K mg base C "waiting" 5 f1 fd1 ["self"] (d_waiting C sv)) : FnD P w K mg base 6 f fd ["self"] (d_length C sv) := by
  refine Dl.Fun.dok F sc_length _ (fun cdv A outer s H E B hp =>
      (dss_one (ds_ret (de_cb cd_len rfl T.b_len boot_len (da_cons (de_mf0 (de_var (pv 0)) M_waiting B.hr B.gd B.tk) da_nil))))) (fun ys m F P h => ?_)
  obtain ⟨a, u, p, rs, rfl, A, hl, h⟩ := h
  obtain ⟨dx, ho⟩ := A.ob
  refine ⟨rfl, _, rfl, a, dx, _, rfl, ho, fl_no u p (by decide +kernel) (by decide +kernel), a, u, p, rs, rfl, A, hl, fun m' hm' => ?_⟩
  refine ⟨_, (waitL sv rs).map Y.d, rfl, .inr rfl, ?_⟩
  rw [List.length_map]
  exact h m' hm'
abbrev s_repr : Stmt := inClass (top 14) 3
abbrev N_repr : List Str := ["self"]
theorem sc_repr : FnScope N_repr ["self"] (defScope s_repr) := ⟨rfl, rfl, rfl, by decide +kernel, rfl, by decide +kernel, by decide +kernel⟩
def rpS (nm : Str) (u : Int) (n : Nat) : Str := ((((Str.empty ++ nm) ++ Str.ofString (toString u)) ++ " units, ") ++ Str.ofString (toString (n : Int))) ++ " waiting)"
def d_repr (C : Addr) (sv : List Rq → List Nat) (nm : Str) : DSp := fun ys m F _ => ∃ a u p rs, ys = [.l a] ∧ At C m a u p rs ∧ rs.length ≤ 5000 ∧ (1 ≤ u ∧ u ≤ 3) ∧ (waitL sv rs).length ≤ 100 ∧ ∀ m', Mle m m' → F (.d (.str (rpS nm u (waitL sv rs).length))) m'
theorem ok_repr {f : Addr} {fd : FuncData} (F : Fun K "__repr__" "Line.__repr__" s_repr f fd) (T : TxtS K mg) {C : Addr} {sv : List Rq → List Nat} (L : Lin K C) {f1 p1 : Addr} {fd1 : FuncData} (P_length : PF P w K mg base C "length" 6 p1 f1 fd1 ["self"] (d_length C sv)) : FnD P w K mg base 8 f fd ["self"] (d_repr C sv "Line(") := by
  refine Dl.Fun.dok F sc_repr _ (fun cdv A outer s H E B hp =>
      (dss_one (ds_ret (de_fstr (.str (.fmt (kfld K (de_var (pv 0))) (.str (.fmt (de_pf (de_var (pv 0)) P_length B.hr B.gd) (.str .nil))))))))) (fun ys m F P h => ?_)
  obtain ⟨a, u, p, rs, rfl, A, hl, hu, hw, h⟩ := h
  obtain ⟨dx, ho⟩ := A.ob
  have hf := fmt_i (log_small (i := u) (Nat.lt_of_le_of_lt (show u.natAbs ≤ 5 by omega) (by decide +kernel)))
  have hf2 := fmt_i (log_small (i := ((waitL sv rs).length : Int)) (Nat.lt_of_le_of_lt (show (((waitL sv rs).length : Nat) : Int).natAbs ≤ 5000 by omega) (by decide +kernel)))
  have hz := fmt_len hf
  have hz2 := fmt_len hf2
  have z1 : (Str.empty ++ Str.ofString "Line(").length = 5 := by decide +kernel
  have z2 : (Str.ofString " units, ").length = 8 := by decide +kernel
  have z3 : (Str.ofString " waiting)").length = 9 := by decide +kernel
  refine ⟨rfl, _, fmt_s (by decide +kernel), by decide +kernel, _, rfl, a, C, dx, _, _, rfl, ho, L.cl, L.nU, fl_u u p, _, hf, by rw [str_app, z1]; omega, _, fmt_s (by decide +kernel), by rw [str_app, str_app, z1, z2]; omega, ?_⟩
  refine ⟨_, rfl, a, dx, _, rfl, ho, a, u, p, rs, rfl, A, hl, fun m' hm' => ?_⟩
  exact ⟨_, hf2, by rw [str_app, str_app, str_app, z1, z2]; omega, _, fmt_s (by decide +kernel), by rw [str_app, str_app, str_app, str_app, z1, z2, z3]; omega, h m' hm'⟩
abbrev s_request : Stmt := inClass (top 14) 6
abbrev N_request : List Str := ["self", "process", "rank", "holds"]
theorem sc_request : FnScope N_request ["self", "process", "rank"] (defScope s_request) := ⟨rfl, rfl, rfl, by decide +kernel, rfl, by decide +kernel, by decide +kernel⟩
def d_request (C : Addr) : DSp := fun ys m F _ => ∃ a u p rs i k, ys = [.l a, .d (.int i), .d (.int k)] ∧ 0 ≤ i ∧ i ≤ 5 ∧ 0 ≤ k ∧ k ≤ 9 ∧ At C m a u p rs ∧ rs.length ≤ 5000 ∧
  ∀ m', Mle (mu m p (.lst ((askF u rs i k).map rqY))) m' → F (.d (.bool (decide (0 < u - (heldN rs : Int))))) m'
theorem ok_request {f : Addr} {fd : FuncData} (F : Fun K "request" "Line.request" s_request f fd) (T : TxtS K mg) {C : Addr} (L : Lin K C) {f1 f2 f3 p3 : Addr} {fd1 fd2 fd3 : FuncData} (G_check_process : GF P w K mg base "_check_process" 3 f1 fd1 ["process"] d_check_process) (G_check_rank : GF P w K mg base "_check_rank" 3 f2 fd2 ["rank"] d_check_rank) (P_free : PF P w K mg base C "free" 4 p3 f3 fd3 ["self"] (d_free C)) : FnD P w K mg base 6 f fd ["self", "process", "rank"] (d_request C) := by
  refine Dl.Fun.dok F sc_request _ (fun cdv A outer s H E B hp =>
      (dss_cons (ds_expr (de_gf G_check_process B.hr B.gd B.tk rfl (da_cons (de_var (pv 1)) da_nil)))
      (dss_cons (ds_expr (de_gf G_check_rank B.hr B.gd B.tk rfl (da_cons (de_var (pv 2)) da_nil)))
      (dss_cons (ds_set (i := 3) sc_request.nd rfl (by first | exact Or.inl rfl | exact Or.inr rfl) (de_cmp opd_gt (de_pf (de_var (pv 0)) P_free B.hr B.gd) (de_int) (nomark _)))
      (dss_cons (ds_expr (de_bm md_append PySem.F.plainAttrs_list PySem.F.slot_list_append PySem.F.type_list_append (kfld K (de_var (pv 0))) (da_cons (de_tup (da_cons (de_var (pv 2)) (da_cons (de_var (pv 1)) (da_cons (de_var (pv 3)) da_nil)))) da_nil)))
      (dss_one (ds_ret (de_var (pv 3))))))))) (fun ys m F P h => ?_)
  obtain ⟨a, u, p, rs, i, k, rfl, i0, i5, k0, k9, A, hl, h⟩ := h
  obtain ⟨dx, ho⟩ := A.ob
  refine ⟨rfl, _, rfl, _, rfl, i0, i5, _, rfl, _, rfl, k0, k9, _, rfl, a, dx, _, rfl, ho, a, u, p, rs, rfl, A, hl, fun m1 hm1 => ?_⟩
  have A1 := A.le hm1
  obtain ⟨dy, ho1⟩ := A1.ob
  refine ⟨_, rfl, a, C, dy, _, _, rfl, ho1, L.cl, L.nR, fl_r u p, .inl ⟨rfl, _, A1.ls⟩, _, rfl, _, rfl, _, rfl, len3 _ _ _, p, rs.map rqY, _, rfl, rfl, A1.ls, by rw [List.length_map]; omega, _, rfl, ?_⟩
  refine h _ ?_
  have e1 : (askF u rs i k).map rqY = rs.map rqY ++ [Y.d (.tuple [ri k, ri i, .bool (decide (0 < u - (heldN rs : Int)))])] := by
    unfold askF
    rw [List.map_append]
    rfl
  rw [e1]
  exact hm1.mu
abbrev s_release : Stmt := inClass (top 14) 7
abbrev N_release : List Str := ["self", "process", "held", "places", "rank", "follower", "_", "at", "owner", "holds"]
theorem sc_release : FnScope N_release ["self", "process"] (defScope s_release) := ⟨rfl, rfl, rfl, by decide +kernel, rfl, by decide +kernel, by decide +kernel⟩
def hOwn (i : Int) (j : Nat) : Y → Option Y
  | .d (.tuple [_, .int o, .bool true]) => if o = i then some (.d (ri (j : Nat))) else none
  | _ => none
theorem hOwn_all (i : Int) (rs : List Rq) : (rs.map rqY).zipIdx.filterMap (fun p => hOwn i p.2 p.1) = ((ownL rs i).map fun j => ri (j : Nat)).map Y.d := by
  unfold ownL
  rw [List.zipIdx_map, List.filterMap_map, List.map_map, List.map_filterMap]
  congr 1
  funext p
  obtain ⟨⟨k, o, b⟩, n⟩ := p
  cases b with
  | false => rfl
  | true =>
    show (if o = i then _ else _) = Option.map _ (if (true && decide (o = i)) = true then some n else none)
    by_cases h : o = i
    · rw [if_pos h, if_pos (by simpa using h)]; rfl
    · rw [if_neg h, if_neg (by simpa using h)]; rfl
def d_release (C E : Addr) (sv : List Rq → List Nat) : DSp := fun ys m F Q => ∃ a u p rs i, ys = [.l a, .d (.int i)] ∧ 0 ≤ i ∧ i ≤ 5 ∧ At C m a u p rs ∧ rs.length ≤ 5000 ∧
  (relF sv rs i = none → ∀ m', Mle m m' → Q (.ref E) [] m') ∧ (∀ rs' d, relF sv rs i = some (rs', d) → ∀ m', Mle (mu m p (.lst (rs'.map rqY))) m' → F (.d d) m')
theorem ok_release {f : Addr} {fd : FuncData} (F : Fun K "release" "Line.release" s_release f fd) (T : TxtS K mg) {C : Addr} {sv : List Rq → List Nat} (V : Sv sv) (L : Lin K C) {f1 f2 : Addr} {fd1 fd2 : FuncData} (G_check_process : GF P w K mg base "_check_process" 3 f1 fd1 ["process"] d_check_process) (M_served : MF P w K mg base C "_served" 2 f2 fd2 ["self"] (d_served C sv)) (X_HoldError : XcF K mg "HoldError" E) : FnD P w K mg base 4 f fd ["self", "process"] (d_release C E sv) := by
  refine Dl.Fun.dok F sc_release _ (fun cdv A outer s H E B hp =>
      (dss_cons (ds_expr (de_gf G_check_process B.hr B.gd B.tk rfl (da_cons (de_var (pv 1)) da_nil)))
      (dss_cons (ds_setLc (i := 2) (fin := finD) finD_ok rfl sc_release.nd rfl rfl (sw_true rfl rfl rfl (by decide +kernel)) (di_enum rfl T.b_enumerate (da_cons (kfld K (de_var (pv 0))) da_nil)) (blkOk_by (own := [("at", 7), ("_", 6), ("owner", 8), ("holds", 9)]) (N := N_release) (sc := defScope s_release) (by decide +kernel)) (fun _ _ _ _ _ => pg_tup (n := 2) rfl (pgs_cons (pg_name (i := 7) sc_release.nd rfl (by first | exact Or.inl rfl | exact Or.inr rfl)) (pgs_cons (pg_tup (n := 3) rfl (pgs_cons (pg_name (i := 6) sc_release.nd rfl (by first | exact Or.inl rfl | exact Or.inr rfl)) (pgs_cons (pg_name (i := 8) sc_release.nd rfl (by first | exact Or.inl rfl | exact Or.inr rfl)) (pgs_cons (pg_name (i := 9) sc_release.nd rfl (by first | exact Or.inl rfl | exact Or.inr rfl)) pgs_nil)))) pgs_nil))) (dgw_tup (n := 2) (dgw_cons (dgw_name (i := 7) (by decide)) (dgw_cons (dgw_tup (n := 3) (dgw_cons (dgw_name (i := 6) (by decide)) (dgw_cons (dgw_name (i := 8) (by decide)) (dgw_cons (dgw_name (i := 9) (by decide)) dgw_nil)))) dgw_nil))) (fun _ _ _ _ _ => dts_one (DW.dt (dw_and (dt_tru (de_var (pv 9))) (dw_and1 (dt_cmp (opd_eq (Dl.Room.u64 B.hr)) (de_var (pv 8)) (de_var (pv 1)) (nomark _)))))) (fun _ _ _ _ _ => de_var (pv 7)))
      (dss_cons (ds_if (dt_not (dt_tru (de_var (pv 2))))
      (dss_one (kraise rfl B.tk X_HoldError rfl (de_fstr (.str (.fmt (de_var (pv 1)) (.str .nil))))))
      dss_nil)
      (dss_cons (ds_del (kfld K (de_var (pv 0))) (de_ix (de_var (pv 2)) (de_neg (de_int)) (by intro _ _; rfl)))
      (dss_cons (ds_set (i := 3) sc_release.nd rfl (by first | exact Or.inl rfl | exact Or.inr rfl) (de_mf0 (de_var (pv 0)) M_served B.hr B.gd B.tk))
      (dss_cons (ds_if (dt_not (dt_tru (de_var (pv 3))))
      (dss_one (ds_ret (de_non)))
      dss_nil)
      (dss_cons (ds_asg (de_ix (kfld K (de_var (pv 0))) (de_ix (de_var (pv 3)) (de_int) (by intro _ _; rfl)) (by intro _ _; rfl)) (dg_tup (n := 3) rfl (dgs_cons (dg_name (i := 4) sc_release.nd rfl (by first | exact Or.inl rfl | exact Or.inr rfl)) (dgs_cons (dg_name (i := 5) sc_release.nd rfl (by first | exact Or.inl rfl | exact Or.inr rfl)) (dgs_cons (dg_name (i := 6) sc_release.nd rfl (by first | exact Or.inl rfl | exact Or.inr rfl)) dgs_nil)))))
      (dss_cons (ds_asg (de_tup (da_cons (de_var (pv 4)) (da_cons (de_var (pv 5)) (da_cons (de_bl) da_nil)))) (dg_sub (W := W0) (kfld K (de_var (pv 0))) (de_ix (de_var (pv 3)) (de_int) (by intro _ _; rfl))))
      (dss_one (ds_ret (de_var (pv 5))))))))))))) (fun ys m F P h => ?_)
  obtain ⟨a, u, p, rs, i, rfl, i0, i5, A, hl, hn, hs⟩ := h
  obtain ⟨dx, ho⟩ := A.ob
  refine ⟨rfl, _, rfl, i, rfl, i0, i5, _, rfl, a, C, dx, _, _, rfl, ho, L.cl, L.nR, fl_r u p, _, rs.map rqY, rfl, A.ls, ?_⟩
  refine lc_enum (hOwn i) (by rw [List.length_map]; omega) (fun q e => by cases e; rw [A.ls]; exact Option.some_ne_none _) (fun j z M hz hM C' N' hC hN => ?_) (fun D M hD hM => ?_)
  · obtain ⟨q, _, rfl⟩ := List.mem_map.mp (List.mem_of_getElem? hz)
    obtain ⟨k, o, b⟩ := q
    refine tup2 (.inl ⟨_, _, rfl, rfl, rfl⟩) ⟨_, _, rfl, _, _, rfl, tup3 ⟨_, _, rfl, _, _, rfl, _, _, rfl, rfl, rfl, _, rfl, b, tru_b b, ?_⟩⟩
    cases b with
    | false => exact iteF (hN M rfl Mle.refl)
    | true =>
      refine iteT ⟨_, rfl, _, rfl, eq_int ⟨_, rfl, ?_⟩⟩
      exact iteD (fun h => ⟨_, rfl, hC _ M (if_pos h) Mle.refl⟩) (fun h => hN M (if_neg h) Mle.refl)
  · rw [hOwn_all] at hM ⊢
    refine fin_d _ rfl hD hM fun m1 hm1 => ?_
    have A1 := A.le hm1
    obtain ⟨dy, ho1⟩ := A1.ob
    refine ⟨_, rfl, _, (show truD _ = _ from rfl), ?_⟩
    rcases List.eq_nil_or_concat (ownL rs i) with e0 | ⟨L0, j, e0⟩
    · rw [e0]
      have hf := fmt_i (log_small (i := i) (Nat.lt_of_le_of_lt (show i.natAbs ≤ 5 by omega) (by decide +kernel)))
      have hz := fmt_len hf
      have z1 : (Str.empty ++ Str.ofString "process ").length = 8 := by decide +kernel
      have z2 : (Str.ofString " holds no unit").length = 14 := by decide +kernel
      refine iteT ⟨_, fmt_s (by decide +kernel), by decide +kernel, _, rfl, _, hf, by rw [str_app, z1]; omega, _, fmt_s (by decide +kernel), by rw [str_app, str_app, z1, z2]; omega, ?_⟩
      exact hn (by unfold relF lastH; rw [e0]; rfl) m1 hm1
    · have hj : lastH rs i = some j := by unfold lastH; rw [e0]; simp
      have hjl : j < rs.length := by
        have : j ∈ ownL rs i := by rw [e0]; simp
        unfold ownL at this
        obtain ⟨q, hq1, hq2⟩ := List.mem_filterMap.mp this
        split at hq2
        · cases hq2
          have := (List.mem_zipIdx hq1).2.1
          omega
        · cases hq2
      rw [e0]
      refine iteE (by rw [List.concat_eq_append, List.map_append]; cases L0 <;> rfl) ?_
      refine ⟨_, rfl, a, C, dy, _, _, rfl, ho1, L.cl, L.nR, fl_r u p, _, rfl, 1, rfl, -1, ((L0.concat j).map fun j => ri (j : Nat)).map Y.d, .d (ri (j : Nat)), rfl, rfl, by rw [List.concat_eq_append, List.map_append, List.map_append]; exact at_last, p, rs.map rqY, (j : Nat), j, rfl, rfl, A1.ls, by omega, by omega, sq_nat (by rw [List.length_map]; exact hjl), ?_⟩
      have A2 : At C (mu m1 p (.lst ((rs.map rqY).eraseIdx j))) a u p (rs.eraseIdx j) := ⟨⟨dy, (mu_ne A1.ne).trans ho1⟩, mu_same.trans (by rw [map_erase])⟩
      have hl2 : (rs.eraseIdx j).length ≤ 5000 := Nat.le_trans (List.length_eraseIdx_le _ _) hl
      have hr : relF sv rs i = some (endF sv (rs.eraseIdx j)) := by unfold relF; rw [hj]; rfl
      have hmu : Mle (mu m p (.lst ((rs.eraseIdx j).map rqY))) (mu m1 p (.lst ((rs.map rqY).eraseIdx j))) := by rw [map_erase]; exact hm1.mu
      obtain ⟨dz, ho2⟩ := A2.ob
      generalize rs.eraseIdx j = r1 at *
      refine ⟨_, rfl, a, dz, _, rfl, ho2, fl_no u p (by decide +kernel) (by decide +kernel), a, u, p, r1, rfl, A2, hl2, fun m3 hm3 => ?_⟩
      have A3 := A2.le hm3
      obtain ⟨dw, ho3⟩ := A3.ob
      refine ⟨_, rfl, _, (show truD _ = _ from rfl), ?_⟩
      cases e1 : sv r1 with
      | nil =>
        refine iteT ?_
        exact hs r1 .none (by rw [hr]; unfold endF; rw [e1]) m3 (hmu.trans hm3)
      | cons k ks =>
        have hk : k < r1.length := V.lt r1 k (by rw [e1]; simp)
        have e2 : r1[k]? = some r1[k] := List.getElem?_eq_getElem hk
        refine iteF ?_
        refine ⟨_, rfl, a, C, dw, _, _, rfl, ho3, L.cl, L.nR, fl_r u p, _, rfl, 0, ((k :: ks).map fun j => ri (j : Nat)).map Y.d, .d (ri (k : Nat)), rfl, rfl, at_zero, (k : Nat), r1.map rqY, rqY r1[k], rfl, .inl A3.ls, at_nat (by rw [List.getElem?_map, e2]; rfl), ?_⟩
        refine tup3 ⟨_, _, rfl, _, _, rfl, _, _, rfl, rfl, ?_⟩
        refine ⟨_, rfl, _, rfl, len3 _ _ _, ?_⟩
        refine ⟨_, rfl, a, C, dw, _, _, rfl, ho3, L.cl, L.nR, fl_r u p, _, rfl, 0, ((k :: ks).map fun j => ri (j : Nat)).map Y.d, .d (ri (k : Nat)), rfl, rfl, at_zero, p, r1.map rqY, (k : Nat), k, rfl, rfl, A3.ls, ix_nat (by rw [List.length_map]; exact hk), _, rfl, ?_⟩
        refine hs (r1.set k { r1[k] with held := true }) (ri r1[k].proc) (by rw [hr]; unfold endF; rw [e1]; simp only [e2]) _ ?_
        rw [List.map_set]
        have h3 := hmu.trans hm3
        have h4 := h3.mu (p := p) (o := .lst ((r1.map rqY).set k (rqY { r1[k] with held := true })))
        rw [mu_mu] at h4
        exact h4
abbrev s_Rholders : Stmt := inClass (top 15) 7
abbrev N_Rholders : List Str := ["self"]
theorem sc_Rholders : SupScope N_Rholders ["self"] (defScope s_Rholders) := ⟨⟨rfl, rfl, rfl, by decide +kernel, rfl, by decide +kernel, by decide +kernel⟩, rfl, by decide +kernel, by decide +kernel, by decide +kernel⟩
theorem ok_Rholders {f : Addr} {fd : FuncData} {cdv : Value} {cc D : Addr} (F : SFun P K "holders" "RankLine.holders" s_Rholders f fd cdv cc D) (T : TxtS K mg) {n : Nat} {C : Addr} {g : Addr} {fdg : FuncData} (U_holders : UF P w K mg base C D "holders" n g fdg ["self"] (d_holders C)) : FnD P w K mg base (n + 1) f fd ["self"] (d_holders C) := by
  refine SFun.dok F sc_Rholders _ (fun A outer s H E B hp =>
      dssA_one (dsA_ret (dea_uf0 T.b_super F.sf U_holders B.hr B.gd B.tk (Nat.le_refl _)))) (fun ys m F P h => ?_)
  obtain ⟨a, u, p, rs, rfl, A, hl, h⟩ := h
  obtain ⟨dx, ho⟩ := A.ob
  exact ⟨rfl, a, dx, _, rfl, ho, a, u, p, rs, rfl, A, hl, h⟩
abbrev s_Rfree : Stmt := inClass (top 15) 3
abbrev N_Rfree : List Str := ["self"]
theorem sc_Rfree : FnScope N_Rfree ["self"] (defScope s_Rfree) := ⟨rfl, rfl, rfl, by decide +kernel, rfl, by decide +kernel, by decide +kernel⟩
theorem ok_Rfree {f : Addr} {fd : FuncData} (F : Fun K "free" "RankLine.free" s_Rfree f fd) (T : TxtS K mg) {C : Addr} (L : Lin K C) {f1 : Addr} {fd1 : FuncData} (M_holders : MF P w K mg base C "holders" 3 f1 fd1 ["self"] (d_holders C)) : FnD P w K mg base 4 f fd ["self"] (d_free C) := by
  refine Dl.Fun.dok F sc_Rfree _ (fun cdv A outer s H E B hp =>
      (dss_one (ds_ret (de_op opd_sub (kfld K (de_var (pv 0))) (de_cb cd_len rfl T.b_len boot_len (da_cons (de_mf0 (de_var (pv 0)) M_holders B.hr B.gd B.tk) da_nil)))))) (fun ys m F P h => ?_)
  obtain ⟨a, u, p, rs, rfl, A, hl, h⟩ := h
  obtain ⟨dx, ho⟩ := A.ob
  refine ⟨rfl, _, rfl, a, C, dx, _, _, rfl, ho, L.cl, L.nU, fl_u u p, _, rfl, a, dx, _, rfl, ho, fl_no u p (by decide +kernel) (by decide +kernel), a, u, p, rs, rfl, A, hl, fun m' hm' => ?_⟩
  refine ⟨_, (heldL rs).map Y.d, rfl, .inr rfl, ?_⟩
  rw [List.length_map, heldL_len]
  exact h m' hm'
abbrev s_Rserved : Stmt := inClass (top 15) 10
abbrev N_Rserved : List Str := ["self", "places", "pair", "at"]
theorem sc_Rserved : SupScope N_Rserved ["self"] (defScope s_Rserved) := ⟨⟨rfl, rfl, rfl, by decide +kernel, rfl, by decide +kernel, by decide +kernel⟩, rfl, by decide +kernel, by decide +kernel, by decide +kernel⟩
def hRk (rs : List Rq) : Y → Option Y
  | .d (.int i) => rs[i.toNat]?.map fun q => .d (prD (q.rank, i))
  | _ => none
theorem hRk_all (rs : List Rq) : (((sv0 rs).map fun i => ri (i : Nat)).map Y.d).filterMap (hRk rs) = ((wPairs 1 rs).map prD).map Y.d := by
  unfold sv0 wPairs
  rw [List.map_map, List.filterMap_map, List.filterMap_filterMap, List.map_map, List.map_filterMap]
  refine fm_congr fun p hp => ?_
  obtain ⟨r, n⟩ := p
  have hx := List.mem_zipIdx hp
  have e : rs[n]? = some r := by
    rw [List.getElem?_eq_getElem (by omega)]
    have := hx.2.2
    simp at this
    exact congrArg some this.symm
  cases h : r.held with
  | true => simp [h]
  | false =>
    simp only [h, Bool.false_eq_true, if_false, Option.bind_some, Function.comp, hRk, Int.toNat_natCast, e, Option.map_some, Int.mul_one]
def hSnd : Y → Option Y
  | .d (.tuple [_, x]) => some (.d x)
  | _ => none
theorem hSnd_all (rs : List Rq) : (((srt (wPairs 1 rs)).map prD).map Y.d).filterMap hSnd = ((svR 1 rs).map fun i => ri (i : Nat)).map Y.d := by
  unfold svR
  have h : ∀ ps : List (Int × Int), (∀ p ∈ ps, 0 ≤ p.2) → ((ps.map prD).map Y.d).filterMap hSnd = ((ps.map fun p => p.2.toNat).map fun i => ri (i : Nat)).map Y.d := by
    intro ps
    induction ps with
    | nil => intro _; rfl
    | cons p ps ih =>
      intro hp
      have h1 := hp p (by simp)
      rw [List.map_cons, List.map_cons, List.map_cons, List.map_cons, List.map_cons, List.filterMap_cons]
      show Y.d (ri p.2) :: _ = _
      rw [ih fun x hx => hp x (by simp [hx])]
      rw [show ((p.2.toNat : Nat) : Int) = p.2 by omega]
  refine h _ fun p hp => ?_
  obtain ⟨n, e, _⟩ := wPairs_lt (srt_mem hp)
  rw [e]
  exact Int.natCast_nonneg n
theorem ok_Rserved {f : Addr} {fd : FuncData} {cdv : Value} {cc D : Addr} (F : SFun P K "_served" "RankLine._served" s_Rserved f fd cdv cc D) (T : TxtS K mg) {n : Nat} {C : Addr} (L : Lin K C) {g : Addr} {fdg : FuncData} (U_served : UF P w K mg base C D "_served" n g fdg ["self"] (d_served C sv0)) : FnD P w K mg base (n + 1) f fd ["self"] (d_served C (svR 1)) := by
  refine SFun.dok F sc_Rserved _ (fun A outer s H E B hp =>
      dssA_cons (dsA_set (i := 1) sc_Rserved.fs.nd rfl (by first | exact Or.inl rfl | exact Or.inr rfl) (dea_uf0 T.b_super F.sf U_served B.hr B.gd B.tk (Nat.le_refl _)))
      (dss_one (ds_ret (de_lc (fin := finD) finD_ok rfl sc_Rserved.fs.nd (di_seq (de_cb cd_sorted rfl T.b_sorted boot_sorted (da_cons (de_lc (fin := finD) finD_ok rfl sc_Rserved.fs.nd (di_seq (de_var (pv 1))) (blkOk_by (own := [("at", 3)]) (N := N_Rserved) (sc := defScope s_Rserved) (by decide +kernel)) (fun _ _ _ _ _ => pg_name (i := 3) sc_Rserved.fs.nd rfl (by first | exact Or.inl rfl | exact Or.inr rfl)) (dgw_name (i := 3) (by decide)) (fun _ _ _ _ _ => dts_nil) (fun _ _ _ _ _ => de_tup (da_cons (de_ix (de_ix (kfld K (de_var (pv 0))) (de_var (pv 3)) (by intro _ _; rfl)) (de_int) (by intro _ _; rfl)) (da_cons (de_var (pv 3)) da_nil)))) da_nil))) (blkOk_by (own := [("pair", 2)]) (N := N_Rserved) (sc := defScope s_Rserved) (by decide +kernel)) (fun _ _ _ _ _ => pg_name (i := 2) sc_Rserved.fs.nd rfl (by first | exact Or.inl rfl | exact Or.inr rfl)) (dgw_name (i := 2) (by decide)) (fun _ _ _ _ _ => dts_nil) (fun _ _ _ _ _ => de_ix (de_var (pv 2)) (de_int) (by intro _ _; rfl)))))) (fun ys m F P h => ?_)
  obtain ⟨a, u, p, rs, rfl, A, hl, h⟩ := h
  obtain ⟨dx, ho⟩ := A.ob
  refine ⟨rfl, a, dx, _, rfl, ho, a, u, p, rs, rfl, A, hl, fun m1 hm1 => ?_⟩
  refine ⟨_, rfl, ((sv0 rs).map fun i => ri (i : Nat)).map Y.d, rfl, ?_⟩
  refine lc_seq (hRk rs) (by rw [List.length_map, List.length_map]; exact Nat.le_trans (sv_sv0.len rs) (by omega)) (fun q e => by cases e) (fun z M hz hM C' N' hC hN => ?_) (fun D' M hD hM => ?_)
  · obtain ⟨_, hz1, rfl⟩ := List.mem_map.mp hz
    obtain ⟨i, hi, rfl⟩ := List.mem_map.mp hz1
    have hlt := sv_sv0.lt rs i hi
    have A1 := (A.le hm1).le hM
    obtain ⟨dy, ho1⟩ := A1.ob
    have e1 : rs[i]? = some rs[i] := List.getElem?_eq_getElem hlt
    refine iteT ⟨_, rfl, a, C, dy, _, _, rfl, ho1, L.cl, L.nR, fl_r u p, _, rfl, (i : Nat), rs.map rqY, rqY rs[i], rfl, .inl A1.ls, at_nat (by rw [List.getElem?_map, e1]; rfl), 0, _, .d (ri rs[i].rank), rfl, rfl, at_zero, _, rfl, len2 _ _, hC _ M ?_ Mle.refl⟩
    show (rs[((i : Nat) : Int).toNat]?).map _ = _
    rw [Int.toNat_natCast, e1]
    rfl
  · rw [hRk_all] at hM ⊢
    refine fin_d _ rfl hD hM fun m2 hm2 => ?_
    refine ⟨wPairs 1 rs, rfl, ((srt (wPairs 1 rs)).map prD).map Y.d, rfl, ?_⟩
    refine lc_seq hSnd (by rw [List.length_map, List.length_map, srt_len]; exact Nat.le_trans (wPairs_len 1 rs) (by omega)) (fun q e => by cases e) (fun z M2 hz hM2 C' N' hC hN => ?_) (fun D2 M2 hD2 hM2 => ?_)
    · obtain ⟨_, hz1, rfl⟩ := List.mem_map.mp hz
      obtain ⟨pp, hpp, rfl⟩ := List.mem_map.mp hz1
      exact iteT ⟨_, rfl, 1, _, .d (ri pp.2), rfl, rfl, at_nat (n := 1) rfl, hC _ M2 rfl Mle.refl⟩
    · rw [hSnd_all] at hM2 ⊢
      exact fin_d _ rfl hD2 hM2 fun m3 hm3 => h m3 ((hm1.trans hm2).trans hm3)
abbrev s_Rwaiting : Stmt := inClass (top 15) 8
abbrev N_Rwaiting : List Str := ["self"]
theorem sc_Rwaiting : SupScope N_Rwaiting ["self"] (defScope s_Rwaiting) := ⟨⟨rfl, rfl, rfl, by decide +kernel, rfl, by decide +kernel, by decide +kernel⟩, rfl, by decide +kernel, by decide +kernel, by decide +kernel⟩
theorem ok_Rwaiting {f : Addr} {fd : FuncData} {cdv : Value} {cc D : Addr} (F : SFun P K "waiting" "RankLine.waiting" s_Rwaiting f fd cdv cc D) (T : TxtS K mg) {n : Nat} {C : Addr} {g : Addr} {fdg : FuncData} {sv : List Rq → List Nat} (U_waiting : UF P w K mg base C D "waiting" n g fdg ["self"] (d_waiting C sv)) : FnD P w K mg base (n + 1) f fd ["self"] (d_waiting C sv) := by
  refine SFun.dok F sc_Rwaiting _ (fun A outer s H E B hp =>
      dssA_one (dsA_ret (dea_uf0 T.b_super F.sf U_waiting B.hr B.gd B.tk (Nat.le_refl _)))) (fun ys m F P h => ?_)
  obtain ⟨a, u, p, rs, rfl, A, hl, h⟩ := h
  obtain ⟨dx, ho⟩ := A.ob
  exact ⟨rfl, a, dx, _, rfl, ho, a, u, p, rs, rfl, A, hl, h⟩
abbrev s_Rlength : Stmt := inClass (top 15) 4
abbrev N_Rlength : List Str := ["self"]
theorem sc_Rlength : FnScope N_Rlength ["self"] (defScope s_Rlength) := ⟨rfl, rfl, rfl, by decide +kernel, rfl, by decide +kernel, by decide +kernel⟩
theorem ok_Rlength {f : Addr} {fd : FuncData} (F : Fun K "length" "RankLine.length" s_Rlength f fd) (T : TxtS K mg) {C : Addr} {sv : List Rq → List Nat} (V : Sv sv) (L : Lin K C) {f1 : Addr} {fd1 : FuncData} (M_waiting : MF P w K mg base C "waiting" 5 f1 fd1 ["self"] (d_waiting C sv)) : FnD P w K mg base 6 f fd ["self"] (d_length C sv) := by
  refine Dl.Fun.dok F sc_Rlength _ (fun cdv A outer s H E B hp =>
      (dss_one (ds_ret (de_cb cd_len rfl T.b_len boot_len (da_cons (de_mf0 (de_var (pv 0)) M_waiting B.hr B.gd B.tk) da_nil))))) (fun ys m F P h => ?_)
  obtain ⟨a, u, p, rs, rfl, A, hl, h⟩ := h
  obtain ⟨dx, ho⟩ := A.ob
  refine ⟨rfl, _, rfl, a, dx, _, rfl, ho, fl_no u p (by decide +kernel) (by decide +kernel), a, u, p, rs, rfl, A, hl, fun m' hm' => ?_⟩
  refine ⟨_, (waitL sv rs).map Y.d, rfl, .inr rfl, ?_⟩
  rw [List.length_map]
  exact h m' hm'
abbrev s_Rrepr : Stmt := inClass (top 15) 2
abbrev N_Rrepr : List Str := ["self"]
theorem sc_Rrepr : FnScope N_Rrepr ["self"] (defScope s_Rrepr) := ⟨rfl, rfl, rfl, by decide +kernel, rfl, by decide +kernel, by decide +kernel⟩
theorem ok_Rrepr {f : Addr} {fd : FuncData} (F : Fun K "__repr__" "RankLine.__repr__" s_Rrepr f fd) (T : TxtS K mg) {C : Addr} {sv : List Rq → List Nat} (L : Lin K C) {f1 p1 : Addr} {fd1 : FuncData} (P_length : PF P w K mg base C "length" 6 p1 f1 fd1 ["self"] (d_length C sv)) : FnD P w K mg base 8 f fd ["self"] (d_repr C sv "RankLine(") := by
  refine Dl.Fun.dok F sc_Rrepr _ (fun cdv A outer s H E B hp =>
      (dss_one (ds_ret (de_fstr (.str (.fmt (kfld K (de_var (pv 0))) (.str (.fmt (de_pf (de_var (pv 0)) P_length B.hr B.gd) (.str .nil))))))))) (fun ys m F P h => ?_)
  obtain ⟨a, u, p, rs, rfl, A, hl, hu, hw, h⟩ := h
  obtain ⟨dx, ho⟩ := A.ob
  have hf := fmt_i (log_small (i := u) (Nat.lt_of_le_of_lt (show u.natAbs ≤ 5 by omega) (by decide +kernel)))
  have hf2 := fmt_i (log_small (i := ((waitL sv rs).length : Int)) (Nat.lt_of_le_of_lt (show (((waitL sv rs).length : Nat) : Int).natAbs ≤ 5000 by omega) (by decide +kernel)))
  have hz := fmt_len hf
  have hz2 := fmt_len hf2
  have z1 : (Str.empty ++ Str.ofString "RankLine(").length = 9 := by decide +kernel
  have z2 : (Str.ofString " units, ").length = 8 := by decide +kernel
  have z3 : (Str.ofString " waiting)").length = 9 := by decide +kernel
  refine ⟨rfl, _, fmt_s (by decide +kernel), by decide +kernel, _, rfl, a, C, dx, _, _, rfl, ho, L.cl, L.nU, fl_u u p, _, hf, by rw [str_app, z1]; omega, _, fmt_s (by decide +kernel), by rw [str_app, str_app, z1, z2]; omega, ?_⟩
  refine ⟨_, rfl, a, dx, _, rfl, ho, a, u, p, rs, rfl, A, hl, fun m' hm' => ?_⟩
  exact ⟨_, hf2, by rw [str_app, str_app, str_app, z1, z2]; omega, _, fmt_s (by decide +kernel), by rw [str_app, str_app, str_app, str_app, z1, z2, z3]; omega, h m' hm'⟩
abbrev s_Rrequest : Stmt := inClass (top 15) 5
abbrev N_Rrequest : List Str := ["self", "process", "rank"]
theorem sc_Rrequest : SupScope N_Rrequest ["self", "process", "rank"] (defScope s_Rrequest) := ⟨⟨rfl, rfl, rfl, by decide +kernel, rfl, by decide +kernel, by decide +kernel⟩, rfl, by decide +kernel, by decide +kernel, by decide +kernel⟩
theorem ok_Rrequest {f : Addr} {fd : FuncData} {cdv : Value} {cc D : Addr} (F : SFun P K "request" "RankLine.request" s_Rrequest f fd cdv cc D) (T : TxtS K mg) {n : Nat} {C : Addr} {g : Addr} {fdg : FuncData} (U_request : UF P w K mg base C D "request" n g fdg ["self", "process", "rank"] (d_request C)) : FnD P w K mg base (n + 1) f fd ["self", "process", "rank"] (d_request C) := by
  refine SFun.dok F sc_Rrequest _ (fun A outer s H E B hp =>
      dssA_one (dsA_ret (dea_uf T.b_super F.sf U_request B.hr B.gd B.tk (da_cons (de_var (pv 1)) (da_cons (de_var (pv 2)) da_nil)) (Nat.le_refl _)))) (fun ys m F P h => ?_)
  obtain ⟨a, u, p, rs, i, k, rfl, i0, i5, k0, k9, A, hl, h⟩ := h
  obtain ⟨dx, ho⟩ := A.ob
  exact ⟨rfl, a, dx, _, rfl, ho, _, rfl, _, rfl, a, u, p, rs, i, k, rfl, i0, i5, k0, k9, A, hl, h⟩
abbrev s_Rrelease : Stmt := inClass (top 15) 6
abbrev N_Rrelease : List Str := ["self", "process"]
theorem sc_Rrelease : SupScope N_Rrelease ["self", "process"] (defScope s_Rrelease) := ⟨⟨rfl, rfl, rfl, by decide +kernel, rfl, by decide +kernel, by decide +kernel⟩, rfl, by decide +kernel, by decide +kernel, by decide +kernel⟩
theorem ok_Rrelease {f : Addr} {fd : FuncData} {cdv : Value} {cc D : Addr} (F : SFun P K "release" "RankLine.release" s_Rrelease f fd cdv cc D) (T : TxtS K mg) {n : Nat} {C E0 : Addr} {g : Addr} {fdg : FuncData} {sv : List Rq → List Nat} (U_release : UF P w K mg base C D "release" n g fdg ["self", "process"] (d_release C E0 sv)) : FnD P w K mg base (n + 1) f fd ["self", "process"] (d_release C E0 sv) := by
  refine SFun.dok F sc_Rrelease _ (fun A outer s H E B hp =>
      dssA_one (dsA_ret (dea_uf T.b_super F.sf U_release B.hr B.gd B.tk (da_cons (de_var (pv 1)) da_nil) (Nat.le_refl _)))) (fun ys m F P h => ?_)
  obtain ⟨a, u, p, rs, i, rfl, i0, i5, A, hl, h⟩ := h
  obtain ⟨dx, ho⟩ := A.ob
  exact ⟨rfl, a, dx, _, rfl, ho, _, rfl, a, u, p, rs, i, rfl, i0, i5, A, hl, h⟩
abbrev s_Pholders : Stmt := inClass (top 16) 7
abbrev N_Pholders : List Str := ["self"]
theorem sc_Pholders : SupScope N_Pholders ["self"] (defScope s_Pholders) := ⟨⟨rfl, rfl, rfl, by decide +kernel, rfl, by decide +kernel, by decide +kernel⟩, rfl, by decide +kernel, by decide +kernel, by decide +kernel⟩
theorem ok_Pholders {f : Addr} {fd : FuncData} {cdv : Value} {cc D : Addr} (F : SFun P K "holders" "PreemptLine.holders" s_Pholders f fd cdv cc D) (T : TxtS K mg) {n : Nat} {C : Addr} {g : Addr} {fdg : FuncData} (U_holders : UF P w K mg base C D "holders" n g fdg ["self"] (d_holders C)) : FnD P w K mg base (n + 1) f fd ["self"] (d_holders C) := by
  refine SFun.dok F sc_Pholders _ (fun A outer s H E B hp =>
      dssA_one (dsA_ret (dea_uf0 T.b_super F.sf U_holders B.hr B.gd B.tk (Nat.le_refl _)))) (fun ys m F P h => ?_)
  obtain ⟨a, u, p, rs, rfl, A, hl, h⟩ := h
  obtain ⟨dx, ho⟩ := A.ob
  exact ⟨rfl, a, dx, _, rfl, ho, a, u, p, rs, rfl, A, hl, h⟩
abbrev s_Pfree : Stmt := inClass (top 16) 3
abbrev N_Pfree : List Str := ["self"]
theorem sc_Pfree : FnScope N_Pfree ["self"] (defScope s_Pfree) := ⟨rfl, rfl, rfl, by decide +kernel, rfl, by decide +kernel, by decide +kernel⟩
theorem ok_Pfree {f : Addr} {fd : FuncData} (F : Fun K "free" "PreemptLine.free" s_Pfree f fd) (T : TxtS K mg) {C : Addr} (L : Lin K C) {f1 : Addr} {fd1 : FuncData} (M_holders : MF P w K mg base C "holders" 3 f1 fd1 ["self"] (d_holders C)) : FnD P w K mg base 4 f fd ["self"] (d_free C) := by
  refine Dl.Fun.dok F sc_Pfree _ (fun cdv A outer s H E B hp =>
      (dss_one (ds_ret (de_op opd_sub (kfld K (de_var (pv 0))) (de_cb cd_len rfl T.b_len boot_len (da_cons (de_mf0 (de_var (pv 0)) M_holders B.hr B.gd B.tk) da_nil)))))) (fun ys m F P h => ?_)
  obtain ⟨a, u, p, rs, rfl, A, hl, h⟩ := h
  obtain ⟨dx, ho⟩ := A.ob
  refine ⟨rfl, _, rfl, a, C, dx, _, _, rfl, ho, L.cl, L.nU, fl_u u p, _, rfl, a, dx, _, rfl, ho, fl_no u p (by decide +kernel) (by decide +kernel), a, u, p, rs, rfl, A, hl, fun m' hm' => ?_⟩
  refine ⟨_, (heldL rs).map Y.d, rfl, .inr rfl, ?_⟩
  rw [List.length_map, heldL_len]
  exact h m' hm'
abbrev s_Pwaiting : Stmt := inClass (top 16) 8
abbrev N_Pwaiting : List Str := ["self"]
theorem sc_Pwaiting : SupScope N_Pwaiting ["self"] (defScope s_Pwaiting) := ⟨⟨rfl, rfl, rfl, by decide +kernel, rfl, by decide +kernel, by decide +kernel⟩, rfl, by decide +kernel, by decide +kernel, by decide +kernel⟩
theorem ok_Pwaiting {f : Addr} {fd : FuncData} {cdv : Value} {cc D : Addr} (F : SFun P K "waiting" "PreemptLine.waiting" s_Pwaiting f fd cdv cc D) (T : TxtS K mg) {n : Nat} {C : Addr} {g : Addr} {fdg : FuncData} {sv : List Rq → List Nat} (U_waiting : UF P w K mg base C D "waiting" n g fdg ["self"] (d_waiting C sv)) : FnD P w K mg base (n + 1) f fd ["self"] (d_waiting C sv) := by
  refine SFun.dok F sc_Pwaiting _ (fun A outer s H E B hp =>
      dssA_one (dsA_ret (dea_uf0 T.b_super F.sf U_waiting B.hr B.gd B.tk (Nat.le_refl _)))) (fun ys m F P h => ?_)
  obtain ⟨a, u, p, rs, rfl, A, hl, h⟩ := h
  obtain ⟨dx, ho⟩ := A.ob
  exact ⟨rfl, a, dx, _, rfl, ho, a, u, p, rs, rfl, A, hl, h⟩
abbrev s_Plength : Stmt := inClass (top 16) 4
abbrev N_Plength : List Str := ["self"]
theorem sc_Plength : FnScope N_Plength ["self"] (defScope s_Plength) := ⟨rfl, rfl, rfl, by decide +kernel, rfl, by decide +kernel, by decide +kernel⟩
theorem ok_Plength {f : Addr} {fd : FuncData} (F : Fun K "length" "PreemptLine.length" s_Plength f fd) (T : TxtS K mg) {C : Addr} {sv : List Rq → List Nat} (V : Sv sv) (L : Lin K C) {f1 : Addr} {fd1 : FuncData} (M_waiting : MF P w K mg base C "waiting" 5 f1 fd1 ["self"] (d_waiting C sv)) : FnD P w K mg base 6 f fd ["self"] (d_length C sv) := by
  refine Dl.Fun.dok F sc_Plength _ (fun cdv A outer s H E B hp =>
      (dss_one (ds_ret (de_cb cd_len rfl T.b_len boot_len (da_cons (de_mf0 (de_var (pv 0)) M_waiting B.hr B.gd B.tk) da_nil))))) (fun ys m F P h => ?_)
  obtain ⟨a, u, p, rs, rfl, A, hl, h⟩ := h
  obtain ⟨dx, ho⟩ := A.ob
  refine ⟨rfl, _, rfl, a, dx, _, rfl, ho, fl_no u p (by decide +kernel) (by decide +kernel), a, u, p, rs, rfl, A, hl, fun m' hm' => ?_⟩
  refine ⟨_, (waitL sv rs).map Y.d, rfl, .inr rfl, ?_⟩
  rw [List.length_map]
  exact h m' hm'
abbrev s_Prepr : Stmt := inClass (top 16) 2
abbrev N_Prepr : List Str := ["self"]
theorem sc_Prepr : FnScope N_Prepr ["self"] (defScope s_Prepr) := ⟨rfl, rfl, rfl, by decide +kernel, rfl, by decide +kernel, by decide +kernel⟩
theorem ok_Prepr {f : Addr} {fd : FuncData} (F : Fun K "__repr__" "PreemptLine.__repr__" s_Prepr f fd) (T : TxtS K mg) {C : Addr} {sv : List Rq → List Nat} (L : Lin K C) {f1 p1 : Addr} {fd1 : FuncData} (P_length : PF P w K mg base C "length" 6 p1 f1 fd1 ["self"] (d_length C sv)) : FnD P w K mg base 8 f fd ["self"] (d_repr C sv "PreemptLine(") := by
  refine Dl.Fun.dok F sc_Prepr _ (fun cdv A outer s H E B hp =>
      (dss_one (ds_ret (de_fstr (.str (.fmt (kfld K (de_var (pv 0))) (.str (.fmt (de_pf (de_var (pv 0)) P_length B.hr B.gd) (.str .nil))))))))) (fun ys m F P h => ?_)
  obtain ⟨a, u, p, rs, rfl, A, hl, hu, hw, h⟩ := h
  obtain ⟨dx, ho⟩ := A.ob
  have hf := fmt_i (log_small (i := u) (Nat.lt_of_le_of_lt (show u.natAbs ≤ 5 by omega) (by decide +kernel)))
  have hf2 := fmt_i (log_small (i := ((waitL sv rs).length : Int)) (Nat.lt_of_le_of_lt (show (((waitL sv rs).length : Nat) : Int).natAbs ≤ 5000 by omega) (by decide +kernel)))
  have hz := fmt_len hf
  have hz2 := fmt_len hf2
  have z1 : (Str.empty ++ Str.ofString "PreemptLine(").length = 12 := by decide +kernel
  have z2 : (Str.ofString " units, ").length = 8 := by decide +kernel
  have z3 : (Str.ofString " waiting)").length = 9 := by decide +kernel
  refine ⟨rfl, _, fmt_s (by decide +kernel), by decide +kernel, _, rfl, a, C, dx, _, _, rfl, ho, L.cl, L.nU, fl_u u p, _, hf, by rw [str_app, z1]; omega, _, fmt_s (by decide +kernel), by rw [str_app, str_app, z1, z2]; omega, ?_⟩
  refine ⟨_, rfl, a, dx, _, rfl, ho, a, u, p, rs, rfl, A, hl, fun m' hm' => ?_⟩
  exact ⟨_, hf2, by rw [str_app, str_app, str_app, z1, z2]; omega, _, fmt_s (by decide +kernel), by rw [str_app, str_app, str_app, str_app, z1, z2, z3]; omega, h m' hm'⟩
abbrev s_Prequest : Stmt := inClass (top 16) 5
abbrev N_Prequest : List Str := ["self", "process", "rank"]
theorem sc_Prequest : SupScope N_Prequest ["self", "process", "rank"] (defScope s_Prequest) := ⟨⟨rfl, rfl, rfl, by decide +kernel, rfl, by decide +kernel, by decide +kernel⟩, rfl, by decide +kernel, by decide +kernel, by decide +kernel⟩
theorem ok_Prequest {f : Addr} {fd : FuncData} {cdv : Value} {cc D : Addr} (F : SFun P K "request" "PreemptLine.request" s_Prequest f fd cdv cc D) (T : TxtS K mg) {n : Nat} {C : Addr} {g : Addr} {fdg : FuncData} (U_request : UF P w K mg base C D "request" n g fdg ["self", "process", "rank"] (d_request C)) : FnD P w K mg base (n + 1) f fd ["self", "process", "rank"] (d_request C) := by
  refine SFun.dok F sc_Prequest _ (fun A outer s H E B hp =>
      dssA_one (dsA_ret (dea_uf T.b_super F.sf U_request B.hr B.gd B.tk (da_cons (de_var (pv 1)) (da_cons (de_var (pv 2)) da_nil)) (Nat.le_refl _)))) (fun ys m F P h => ?_)
  obtain ⟨a, u, p, rs, i, k, rfl, i0, i5, k0, k9, A, hl, h⟩ := h
  obtain ⟨dx, ho⟩ := A.ob
  exact ⟨rfl, a, dx, _, rfl, ho, _, rfl, _, rfl, a, u, p, rs, i, k, rfl, i0, i5, k0, k9, A, hl, h⟩
abbrev s_Prelease : Stmt := inClass (top 16) 6
abbrev N_Prelease : List Str := ["self", "process"]
theorem sc_Prelease : SupScope N_Prelease ["self", "process"] (defScope s_Prelease) := ⟨⟨rfl, rfl, rfl, by decide +kernel, rfl, by decide +kernel, by decide +kernel⟩, rfl, by decide +kernel, by decide +kernel, by decide +kernel⟩
theorem ok_Prelease {f : Addr} {fd : FuncData} {cdv : Value} {cc D : Addr} (F : SFun P K "release" "PreemptLine.release" s_Prelease f fd cdv cc D) (T : TxtS K mg) {n : Nat} {C E0 : Addr} {g : Addr} {fdg : FuncData} {sv : List Rq → List Nat} (U_release : UF P w K mg base C D "release" n g fdg ["self", "process"] (d_release C E0 sv)) : FnD P w K mg base (n + 1) f fd ["self", "process"] (d_release C E0 sv) := by
  refine SFun.dok F sc_Prelease _ (fun A outer s H E B hp =>
      dssA_one (dsA_ret (dea_uf T.b_super F.sf U_release B.hr B.gd B.tk (da_cons (de_var (pv 1)) da_nil) (Nat.le_refl _)))) (fun ys m F P h => ?_)
  obtain ⟨a, u, p, rs, i, rfl, i0, i5, A, hl, h⟩ := h
  obtain ⟨dx, ho⟩ := A.ob
  exact ⟨rfl, a, dx, _, rfl, ho, _, rfl, a, u, p, rs, i, rfl, i0, i5, A, hl, h⟩
abbrev s_are_alike : Stmt := top 13
abbrev N_are_alike : List Str := ["one", "other"]
theorem sc_are_alike : FnScope N_are_alike ["one", "other"] (defScope s_are_alike) := ⟨rfl, rfl, rfl, by decide +kernel, rfl, by decide +kernel, by decide +kernel⟩
abbrev nm3 (j : Nat) : Str := fn3 "Line" "RankLine" "PreemptLine" j
theorem Rq.ext' {r s : Rq} (h1 : r.rank = s.rank) (h2 : r.proc = s.proc) (h3 : r.held = s.held) : r = s := by cases r; cases s; simp_all
instance : DecidableEq Rq := fun r s => if h : r.rank = s.rank ∧ r.proc = s.proc ∧ r.held = s.held then isTrue (Rq.ext' h.1 h.2.1 h.2.2) else isFalse fun e => h (by rw [e]; simp)
theorem eqv_rq (r s : Rq) : PyData.eqv (rqD r) (rqD s) = decide (r = s) := by
  obtain ⟨a, b, c⟩ := r
  obtain ⟨a', b', c'⟩ := s
  rw [show PyData.eqv (rqD ⟨a, b, c⟩) (rqD ⟨a', b', c'⟩) = (decide (a = a') && (decide (b = b') && decide (c = c'))) by simp [rqD, PyData.eqv, PyData.eqvAll]; rfl]
  by_cases h1 : a = a' <;> by_cases h2 : b = b' <;> by_cases h3 : c = c' <;> simp [h1, h2, h3]
theorem eqv_rqs : ∀ rs ss : List Rq, PyData.eqv (.list (rs.map rqD)) (.list (ss.map rqD)) = decide (rs = ss) := by
  have key : ∀ rs ss : List Rq, PyData.eqvAll (rs.map rqD) (ss.map rqD) = decide (rs = ss) := by
    intro rs
    induction rs with
    | nil => intro ss; cases ss <;> simp [PyData.eqvAll]
    | cons r rs ih =>
      intro ss
      cases ss with
      | nil => simp [PyData.eqvAll]
      | cons s ss =>
        rw [List.map_cons, List.map_cons]
        show (PyData.eqv (rqD r) (rqD s) && PyData.eqvAll (rs.map rqD) (ss.map rqD)) = _
        rw [eqv_rq, ih]
        by_cases h1 : r = s <;> by_cases h2 : rs = ss <;> simp [h1, h2]
  intro rs ss
  show PyData.eqv (.list _) (.list _) = _
  rw [← key rs ss]
  simp [PyData.eqv]
theorem shp_rqs (rs : List Rq) : SeqAt.shaped (.list (rs.map rqD)) = true := flat_shaped (flat_up (flat_list (n := 2) fun d hd => by
  obtain ⟨r, _, rfl⟩ := List.mem_map.mp hd
  exact flat_tuple (n := 1) fun x hx => by
    simp only [List.mem_cons, List.not_mem_nil, or_false] at hx
    rcases hx with rfl | rfl | rfl <;> exact ⟨by simp [PyData.canLay0], by simp [PyData.depth]⟩) (by decide))
theorem rqY_map (rs : List Rq) : rs.map rqY = (rs.map rqD).map Y.d := by rw [List.map_map]; rfl
theorem nm3_eq {j k : Nat} (hj : j < 3) (hk : k < 3) : (nm3 j = nm3 k) ↔ j = k := by
  match j, hj, k, hk with
  | 0, _, 0, _ => decide +kernel
  | 0, _, 1, _ => decide +kernel
  | 0, _, 2, _ => decide +kernel
  | 1, _, 0, _ => decide +kernel
  | 1, _, 1, _ => decide +kernel
  | 1, _, 2, _ => decide +kernel
  | 2, _, 0, _ => decide +kernel
  | 2, _, 1, _ => decide +kernel
  | 2, _, 2, _ => decide +kernel
def d_are_alike (C0 C1 C2 : Addr) : DSp := fun ys m F _ => ∃ j k a b u v p q rs ss, ys = [.l a, .l b] ∧ j < 3 ∧ k < 3 ∧ At (fn3 C0 C1 C2 j) m a u p rs ∧ At (fn3 C0 C1 C2 k) m b v q ss ∧ F (.d (.bool (decide (j = k ∧ u = v ∧ rs = ss)))) m
theorem ok_are_alike {f : Addr} {fd : FuncData} (F : Fun K "_are_alike" "_are_alike" s_are_alike f fd) (T : TxtS K mg) {C0 C1 C2 : Addr} (HI : ∀ j, j < 3 → ClsI K (fn3 C0 C1 C2 j) ∧ NmC K (fn3 C0 C1 C2 j) (nm3 j) ∧ Lin K (fn3 C0 C1 C2 j)) : FnD P w K mg base 1 f fd ["one", "other"] (d_are_alike C0 C1 C2) := by
  refine Dl.Fun.dok F sc_are_alike _ (fun cdv A outer s H E B hp =>
      (dss_one (ds_ret (de_and (de_cmp (opd_eq (Dl.Room.u64 B.hr)) (de_nmO K (de_clsO K (de_var (pv 0)))) (de_nmO K (de_clsO K (de_var (pv 1)))) (nomark _)) (de_and (de_cmp (opd_eq (Dl.Room.u64 B.hr)) (kfld K (de_var (pv 0))) (kfld K (de_var (pv 1))) (nomark _)) (de_one (de_cmp (opd_eqL (Dl.Room.u64 B.hr)) (kfld K (de_var (pv 0))) (kfld K (de_var (pv 1))) (nomark _)))))))) (fun ys m F P h => ?_)
  obtain ⟨j, k, a, b, u, v, p, q, rs, ss, rfl, hj, hk, A, B, h⟩ := h
  obtain ⟨dx, ho⟩ := A.ob
  obtain ⟨dy, ho2⟩ := B.ob
  obtain ⟨i1, n1, l1⟩ := HI j hj
  obtain ⟨i2, n2, l2⟩ := HI k hk
  refine ⟨rfl, _, rfl, a, _, dx, _, rfl, ho, i1, _, _, rfl, n1, _, rfl, b, _, dy, _, rfl, ho2, i2, _, _, rfl, n2, ?_⟩
  refine ⟨_, rfl, iteD (fun e => ?_) (fun e => ?_)⟩
  · have ejk := (nm3_eq hj hk).mp e
    refine ⟨_, rfl, a, _, dx, _, _, rfl, ho, l1.cl, l1.nU, fl_u u p, _, rfl, b, _, dy, _, _, rfl, ho2, l2.cl, l2.nU, fl_u v q, eq_int ⟨_, rfl, iteD (fun e2 => ?_) (fun e2 => ?_)⟩⟩
    · refine ⟨_, rfl, a, _, dx, _, _, rfl, ho, l1.cl, l1.nR, fl_r u p, _, rfl, b, _, dy, _, _, rfl, ho2, l2.cl, l2.nR, fl_r v q, .list (rs.map rqD), .list (ss.map rqD), .l A.ls (by rw [rqY_map]; exact deep_ds _), .l B.ls (by rw [rqY_map]; exact deep_ds _), shp_rqs rs, shp_rqs ss, ?_⟩
      rw [eqv_rqs]
      have eb : decide (j = k ∧ u = v ∧ rs = ss) = decide (rs = ss) := by simp [ejk, e2]
      rw [eb] at h
      exact h
    · have eb : decide (j = k ∧ u = v ∧ rs = ss) = false := by simp [e2]
      rw [eb] at h
      exact h
  · have eb : decide (j = k ∧ u = v ∧ rs = ss) = false := by
      have : ¬ j = k := fun z => e ((nm3_eq hj hk).mpr z)
      simp [this]
    rw [eb] at h
    exact h
abbrev s_eq : Stmt := inClass (top 14) 2
abbrev N_eq : List Str := ["self", "other"]
theorem sc_eq : FnScope N_eq ["self", "other"] (defScope s_eq) := ⟨rfl, rfl, rfl, by decide +kernel, rfl, by decide +kernel, by decide +kernel⟩
/-- how a line compares with another value -/
def d_eqO (K : PySem.W.Frag) (C0 C1 C2 : Addr) (i : Nat) : DSp := fun ys m F _ => ∃ a u p rs z, ys = [.l a, z] ∧ At (fn3 C0 C1 C2 i) m a u p rs ∧ ((∃ t, TyO K m z t ∧ PySem.W.kitOne K t (.ref (fn3 C0 C1 C2 i)) = some false ∧ F (.d (.bool false)) m) ∨
  ∃ k b v q ss, z = .l b ∧ k < 3 ∧ At (fn3 C0 C1 C2 k) m b v q ss ∧ F (.d (.bool (decide (i = k ∧ u = v ∧ rs = ss)))) m)
theorem ok_eq {f : Addr} {fd : FuncData} (F : Fun K "__eq__" "Line.__eq__" s_eq f fd) (T : TxtS K mg) {C0 C1 C2 : Addr} (HI : ∀ j, j < 3 → ClsI K (fn3 C0 C1 C2 j) ∧ NmC K (fn3 C0 C1 C2 j) (nm3 j) ∧ Lin K (fn3 C0 C1 C2 j)) (HK : ∀ i k, i < 3 → k < 3 → PySem.W.kitOne K (.ref (fn3 C0 C1 C2 k)) (.ref (fn3 C0 C1 C2 i)) = some (decide (i ≤ k))) {f1 : Addr} {fd1 : FuncData} (k_Line : mg "Line" = some (.ref (fn3 C0 C1 C2 0))) (G_are_alike : GF P w K mg base "_are_alike" 1 f1 fd1 ["one", "other"] (d_are_alike C0 C1 C2)) : FnD P w K mg base 2 f fd ["self", "other"] (d_eqO K C0 C1 C2 0) := by
  refine Dl.Fun.dok F sc_eq _ (fun cdv A outer s H E B hp =>
      (dss_one (ds_ret (de_and (de_cb (kisO K) rfl T.b_isinstance boot_isinstance (da_cons (de_var (pv 1)) (da_cons (de_gr rfl k_Line) da_nil))) (de_one (de_gf G_are_alike B.hr B.gd B.tk rfl (da_cons (de_var (pv 0)) (da_cons (de_var (pv 1)) da_nil)))))))) (fun ys m F P h => ?_)
  obtain ⟨a, u, p, rs, z, rfl, A, hz⟩ := h
  rcases hz with ⟨t, ht, hk, h⟩ | ⟨k, b, v, q, ss, rfl, hk, B, h⟩
  · exact ⟨rfl, _, rfl, z, _, t, _, _, rfl, .inl ⟨_, rfl, rfl⟩, ht, hk, _, rfl, h⟩
  · obtain ⟨dy, ho2⟩ := B.ob
    refine ⟨rfl, _, rfl, .l b, _, _, _, _, rfl, .inl ⟨_, rfl, rfl⟩, .ins ho2 (HI k hk).1, HK 0 k (by decide) hk, _, rfl, iteD (fun e => ?_) (fun e => ?_)⟩
    · exact ⟨_, rfl, _, rfl, 0, k, a, b, u, v, p, q, rs, ss, rfl, by decide, hk, A, B, h⟩
    · have eb : decide (0 = k ∧ u = v ∧ rs = ss) = false := by
        have : ¬ 0 = k := by omega
        simp [this]
      rw [eb] at h
      exact h
abbrev s_Req : Stmt := inClass (top 15) 1
abbrev N_Req : List Str := ["self", "other"]
theorem sc_Req : FnScope N_Req ["self", "other"] (defScope s_Req) := ⟨rfl, rfl, rfl, by decide +kernel, rfl, by decide +kernel, by decide +kernel⟩
theorem ok_Req {f : Addr} {fd : FuncData} (F : Fun K "__eq__" "RankLine.__eq__" s_Req f fd) (T : TxtS K mg) {C0 C1 C2 : Addr} (HI : ∀ j, j < 3 → ClsI K (fn3 C0 C1 C2 j) ∧ NmC K (fn3 C0 C1 C2 j) (nm3 j) ∧ Lin K (fn3 C0 C1 C2 j)) (HK : ∀ i k, i < 3 → k < 3 → PySem.W.kitOne K (.ref (fn3 C0 C1 C2 k)) (.ref (fn3 C0 C1 C2 i)) = some (decide (i ≤ k))) {f1 : Addr} {fd1 : FuncData} (k_RankLine : mg "RankLine" = some (.ref (fn3 C0 C1 C2 1))) (G_are_alike : GF P w K mg base "_are_alike" 1 f1 fd1 ["one", "other"] (d_are_alike C0 C1 C2)) : FnD P w K mg base 2 f fd ["self", "other"] (d_eqO K C0 C1 C2 1) := by
  refine Dl.Fun.dok F sc_Req _ (fun cdv A outer s H E B hp =>
      (dss_one (ds_ret (de_and (de_cb (kisO K) rfl T.b_isinstance boot_isinstance (da_cons (de_var (pv 1)) (da_cons (de_gr rfl k_RankLine) da_nil))) (de_one (de_gf G_are_alike B.hr B.gd B.tk rfl (da_cons (de_var (pv 0)) (da_cons (de_var (pv 1)) da_nil)))))))) (fun ys m F P h => ?_)
  obtain ⟨a, u, p, rs, z, rfl, A, hz⟩ := h
  rcases hz with ⟨t, ht, hk, h⟩ | ⟨k, b, v, q, ss, rfl, hk, B, h⟩
  · exact ⟨rfl, _, rfl, z, _, t, _, _, rfl, .inl ⟨_, rfl, rfl⟩, ht, hk, _, rfl, h⟩
  · obtain ⟨dy, ho2⟩ := B.ob
    refine ⟨rfl, _, rfl, .l b, _, _, _, _, rfl, .inl ⟨_, rfl, rfl⟩, .ins ho2 (HI k hk).1, HK 1 k (by decide) hk, _, rfl, iteD (fun e => ?_) (fun e => ?_)⟩
    · exact ⟨_, rfl, _, rfl, 1, k, a, b, u, v, p, q, rs, ss, rfl, by decide, hk, A, B, h⟩
    · have eb : decide (1 = k ∧ u = v ∧ rs = ss) = false := by
        have : ¬ 1 = k := by omega
        simp [this]
      rw [eb] at h
      exact h
abbrev s_Peq : Stmt := inClass (top 16) 1
abbrev N_Peq : List Str := ["self", "other"]
theorem sc_Peq : FnScope N_Peq ["self", "other"] (defScope s_Peq) := ⟨rfl, rfl, rfl, by decide +kernel, rfl, by decide +kernel, by decide +kernel⟩
theorem ok_Peq {f : Addr} {fd : FuncData} (F : Fun K "__eq__" "PreemptLine.__eq__" s_Peq f fd) (T : TxtS K mg) {C0 C1 C2 : Addr} (HI : ∀ j, j < 3 → ClsI K (fn3 C0 C1 C2 j) ∧ NmC K (fn3 C0 C1 C2 j) (nm3 j) ∧ Lin K (fn3 C0 C1 C2 j)) (HK : ∀ i k, i < 3 → k < 3 → PySem.W.kitOne K (.ref (fn3 C0 C1 C2 k)) (.ref (fn3 C0 C1 C2 i)) = some (decide (i ≤ k))) {f1 : Addr} {fd1 : FuncData} (k_PreemptLine : mg "PreemptLine" = some (.ref (fn3 C0 C1 C2 2))) (G_are_alike : GF P w K mg base "_are_alike" 1 f1 fd1 ["one", "other"] (d_are_alike C0 C1 C2)) : FnD P w K mg base 2 f fd ["self", "other"] (d_eqO K C0 C1 C2 2) := by
  refine Dl.Fun.dok F sc_Peq _ (fun cdv A outer s H E B hp =>
      (dss_one (ds_ret (de_and (de_cb (kisO K) rfl T.b_isinstance boot_isinstance (da_cons (de_var (pv 1)) (da_cons (de_gr rfl k_PreemptLine) da_nil))) (de_one (de_gf G_are_alike B.hr B.gd B.tk rfl (da_cons (de_var (pv 0)) (da_cons (de_var (pv 1)) da_nil)))))))) (fun ys m F P h => ?_)
  obtain ⟨a, u, p, rs, z, rfl, A, hz⟩ := h
  rcases hz with ⟨t, ht, hk, h⟩ | ⟨k, b, v, q, ss, rfl, hk, B, h⟩
  · exact ⟨rfl, _, rfl, z, _, t, _, _, rfl, .inl ⟨_, rfl, rfl⟩, ht, hk, _, rfl, h⟩
  · obtain ⟨dy, ho2⟩ := B.ob
    refine ⟨rfl, _, rfl, .l b, _, _, _, _, rfl, .inl ⟨_, rfl, rfl⟩, .ins ho2 (HI k hk).1, HK 2 k (by decide) hk, _, rfl, iteD (fun e => ?_) (fun e => ?_)⟩
    · exact ⟨_, rfl, _, rfl, 2, k, a, b, u, v, p, q, rs, ss, rfl, by decide, hk, A, B, h⟩
    · have eb : decide (2 = k ∧ u = v ∧ rs = ss) = false := by
        have : ¬ 2 = k := by omega
        simp [this]
      rw [eb] at h
      exact h
abbrev s_law_cell_at : Stmt := top 18
abbrev N_law_cell_at : List Str := ["_law_script", "_law_k"]
theorem sc_law_cell_at : FnScope N_law_cell_at ["_law_script", "_law_k"] (defScope s_law_cell_at) := ⟨rfl, rfl, rfl, by decide +kernel, rfl, by decide +kernel, by decide +kernel⟩
def d_law_cell_at : DSp := fun ys m F _ => ∃ (ns : List Int) (k : Nat), ys = [.r (ns.map PyData.int), .d (.int k)] ∧ ∀ x, F (.d (.int x)) m
theorem ok_law_cell_at {f : Addr} {fd : FuncData} (F : Fun K "_law_cell_at" "_law_cell_at" s_law_cell_at f fd) (T : TxtS K mg)  : FnD P w K mg base 1 f fd ["_law_script", "_law_k"] d_law_cell_at := by
  refine Dl.Fun.dok F sc_law_cell_at _ (fun cdv A outer s H E B hp =>
      (dss_cons (ds_if (dt_cmp opd_lt (de_var (pv 1)) (de_cb cd_len rfl T.b_len boot_len (da_cons (de_var (pv 0)) da_nil)) (nomark _))
      (dss_one (ds_ret (de_ix (de_var (pv 0)) (de_var (pv 1)) (by intro _ _; rfl))))
      dss_nil)
      (dss_one (ds_ret (de_int))))) (fun ys m F P h => ?_)
  obtain ⟨ns, k, rfl, h⟩ := h
  refine ⟨rfl, _, rfl, _, rfl, _, (ns.map PyData.int).map Y.d, rfl, .inr rfl, ?_⟩
  rw [List.length_map, List.length_map]
  refine ⟨_, rfl, iteD (fun hk => ?_) (fun _ => h 0)⟩
  have hk' : k < ns.length := by omega
  exact ⟨_, rfl, _, rfl, (k : Nat), _, .d (.int ns[k]), rfl, rfl, at_nat (by rw [List.getElem?_map, List.getElem?_map, List.getElem?_eq_getElem hk']; rfl), h _⟩
abbrev s_law_pen : Stmt := top 19
abbrev N_law_pen : List Str := ["_law_cell"]
theorem sc_law_pen : FnScope N_law_pen ["_law_cell"] (defScope s_law_pen) := ⟨rfl, rfl, rfl, by decide +kernel, rfl, by decide +kernel, by decide +kernel⟩
def d_law_pen : DSp := fun ys m F _ => ∃ c, ys = [.d (.int c)] ∧ ∀ p l m', m p = none → PenL l → Mle (mu m p (.lst l)) m' → F (.l p) m'
theorem ok_law_pen {f : Addr} {fd : FuncData} (F : Fun K "_law_pen" "_law_pen" s_law_pen f fd) (T : TxtS K mg)  : FnD P w K mg base 1 f fd ["_law_cell"] d_law_pen := by
  refine Dl.Fun.dok F sc_law_pen _ (fun cdv A outer s H E B hp =>
      (dss_one (ds_ret (de_lstM (da_cons (de_cb (cd_max2 rfl) rfl T.b_max boot_max (da_cons (de_int) (da_cons (de_op opd_sub (de_var (pv 0)) (de_op opd_pow (de_int) (de_int))) da_nil))) (da_cons (de_op opd_add (de_op opd_mod (de_var (pv 0)) (de_int)) (de_int)) (da_cons (de_int) da_nil))))))) (fun ys m F P h => ?_)
  obtain ⟨c, rfl, h⟩ := h
  refine ⟨rfl, _, rfl, ⟨by decide, by decide, by decide⟩, _, _, rfl, _, rfl, (by decide : (0 : Int) < 2147483629), len3 _ _ _, fun p hp => h p _ _ hp ⟨_, _, _, ?_, ?_, ?_, rfl⟩ Mle.refl⟩
  · split <;> omega
  · have := Int.emod_nonneg c (show (2147483629 : Int) ≠ 0 by decide)
    omega
  · have := Int.emod_lt_of_pos c (show (0 : Int) < 2147483629 by decide)
    omega
abbrev s_law_draw : Stmt := top 20
abbrev N_law_draw : List Str := ["_law_pen_here", "_law_many", "_law_found", "_law_mixed"]
theorem sc_law_draw : FnScope N_law_draw ["_law_pen_here", "_law_many"] (defScope s_law_draw) := ⟨rfl, rfl, rfl, by decide +kernel, rfl, by decide +kernel, by decide +kernel⟩
def d_law_draw : DSp := fun ys m F _ => ∃ p many l, ys = [.l p, .d (.int many)] ∧ 0 < many ∧ many ≤ 1000 ∧ PenL l ∧ m p = some (.lst l) ∧ ∀ x l' m', 0 ≤ x → x < many → PenL l' → Mle (mu m p (.lst l')) m' → F (.d (.int x)) m'
theorem ok_law_draw {f : Addr} {fd : FuncData} (F : Fun K "_law_draw" "_law_draw" s_law_draw f fd) (T : TxtS K mg)  : FnD P w K mg base 1 f fd ["_law_pen_here", "_law_many"] d_law_draw := by
  refine Dl.Fun.dok F sc_law_draw _ (fun cdv A outer s H E B hp =>
      (dss_cons (ds_if (dt_cmp opd_gt (de_ix (de_var (pv 0)) (de_int) (by intro _ _; rfl)) (de_int) (nomark _))
      (dss_cons (ds_set (i := 2) sc_law_draw.nd rfl (by first | exact Or.inl rfl | exact Or.inr rfl) (de_op opd_mod (de_ix (de_var (pv 0)) (de_int) (by intro _ _; rfl)) (de_var (pv 1))))
      (dss_cons (ds_asg (de_op opd_fdiv (de_ix (de_var (pv 0)) (de_int) (by intro _ _; rfl)) (de_var (pv 1))) (dg_sub (W := W0) (de_var (pv 0)) (de_int)))
      (dss_one (ds_ret (de_var (pv 2))))))
      dss_nil)
      (dss_cons (ds_asg (de_op opd_add (de_ix (de_var (pv 0)) (de_int) (by intro _ _; rfl)) (de_int)) (dg_sub (W := W0) (de_var (pv 0)) (de_int)))
      (dss_cons (ds_asg (de_op opd_mod (de_op opd_add (de_op opd_add (de_op opd_mul (de_ix (de_var (pv 0)) (de_int) (by intro _ _; rfl)) (de_int)) (de_op opd_mul (de_int) (de_ix (de_var (pv 0)) (de_int) (by intro _ _; rfl)))) (de_int)) (de_int)) (dg_sub (W := W0) (de_var (pv 0)) (de_int)))
      (dss_cons (ds_set (i := 3) sc_law_draw.nd rfl (by first | exact Or.inl rfl | exact Or.inr rfl) (de_op opd_mod (de_op opd_add (de_op opd_add (de_op opd_mul (de_ix (de_var (pv 0)) (de_int) (by intro _ _; rfl)) (de_ix (de_var (pv 0)) (de_int) (by intro _ _; rfl))) (de_op opd_mul (de_int) (de_ix (de_var (pv 0)) (de_int) (by intro _ _; rfl)))) (de_int)) (de_int)))
      (dss_cons (ds_set (i := 3) sc_law_draw.nd rfl (by first | exact Or.inl rfl | exact Or.inr rfl) (de_op opd_mod (de_op opd_add (de_op opd_mul (de_var (pv 3)) (de_var (pv 3))) (de_op opd_mul (de_int) (de_var (pv 3)))) (de_int)))
      (dss_one (ds_ret (de_op opd_mod (de_op opd_fdiv (de_var (pv 3)) (de_int)) (de_var (pv 1))))))))))) (fun ys m F P h => ?_)
  obtain ⟨p, many, _, rfl, h0, h1, ⟨x, y, z, hx, hy, hy2, rfl⟩, hp, h⟩ := h
  refine ⟨rfl, _, rfl, 0, _, _, rfl, .inl hp, at_zero, _, rfl, iteD (fun hgt => ?_) (fun hle => ?_)⟩
  · refine ⟨_, rfl, 0, _, _, rfl, .inl hp, at_zero, _, rfl, h0, _, rfl, 0, _, _, rfl, .inl hp, at_zero, _, rfl, ⟨h0, by omega⟩, ?_⟩
    refine ⟨_, rfl, p, _, 0, 0, rfl, rfl, hp, ix_nat (n := 0) (Nat.le_of_ble_eq_true rfl), _, rfl, h _ _ _ (Int.emod_nonneg _ (by omega)) (Int.emod_lt_of_pos _ h0) ⟨x / many, y, z, Int.ediv_nonneg hx (by omega), hy, hy2, rfl⟩ Mle.refl⟩
  · refine ⟨_, rfl, 2, _, _, rfl, .inl hp, at_nat (n := 2) rfl, _, rfl, p, _, 2, 2, rfl, rfl, hp, ix_nat (n := 2) (Nat.le_of_ble_eq_true rfl), ?_⟩
    refine ⟨_, rfl, 1, _, _, rfl, .inl mu_same, at_nat (n := 1) rfl, .inr (by decide), _, rfl, 2, _, _, rfl, .inl mu_same, at_nat (n := 2) rfl, .inl (by decide), (by decide : (0 : Int) < 2147483647), ?_⟩
    refine ⟨_, rfl, p, _, 1, 1, rfl, rfl, mu_same, ix_nat (n := 1) (Nat.le_of_ble_eq_true rfl), ?_⟩
    have b1 := Int.emod_nonneg (y * 48271 + 1009 * (z + 1) + 7) (show (2147483647 : Int) ≠ 0 by decide)
    have b2 := Int.emod_lt_of_pos (y * 48271 + 1009 * (z + 1) + 7) (show (0 : Int) < 2147483647 by decide)
    rw [mu_mu]
    generalize (y * 48271 + 1009 * (z + 1) + 7) % 2147483647 = y1 at *
    refine ⟨_, rfl, 1, _, _, rfl, .inl mu_same, at_nat (n := 1) rfl, _, rfl, 1, _, _, rfl, .inl mu_same, at_nat (n := 1) rfl, .inl ⟨by omega, by omega⟩, _, rfl, 1, _, _, rfl, .inl mu_same, at_nat (n := 1) rfl, .inl (by decide), (by decide : (0 : Int) < 2147483629), ?_⟩
    have b3 := Int.emod_nonneg (y1 * y1 + 69621 * y1 + 11) (show (2147483629 : Int) ≠ 0 by decide)
    have b4 := Int.emod_lt_of_pos (y1 * y1 + 69621 * y1 + 11) (show (0 : Int) < 2147483629 by decide)
    generalize (y1 * y1 + 69621 * y1 + 11) % 2147483629 = w1 at *
    refine ⟨_, rfl, _, rfl, .inl ⟨by omega, by omega⟩, _, rfl, .inl (by decide), (by decide : (0 : Int) < 2147483587), ?_⟩
    refine ⟨_, rfl, ⟨(by decide : (0 : Int) < 16), (by decide : (16 : Int) < 1073741824)⟩, _, rfl, h0, ?_⟩
    exact h _ _ _ (Int.emod_nonneg _ (by omega)) (Int.emod_lt_of_pos _ h0) ⟨x, y1, z + 1, hx, b1, by omega, rfl⟩ Mle.refl
abbrev s_law_same : Stmt := top 21
abbrev N_law_same : List Str := ["_law_actual", "_law_expected"]
theorem sc_law_same : FnScope N_law_same ["_law_actual", "_law_expected"] (defScope s_law_same) := ⟨rfl, rfl, rfl, by decide +kernel, rfl, by decide +kernel, by decide +kernel⟩
def d_law_same : DSp := fun ys m F _ => ∃ y z d, ys = [y, z] ∧ DeepY m y d ∧ DeepY m z d ∧ okD d ∧ F (.d (.bool true)) m
theorem ok_law_same {f : Addr} {fd : FuncData} (F : Fun K "_law_same" "_law_same" s_law_same f fd) (T : TxtS K mg)  : FnD P w K mg base 1 f fd ["_law_actual", "_law_expected"] d_law_same := by
  refine Dl.Fun.dok F sc_law_same _ (fun cdv A outer s H E B hp =>
      (dss_one (ds_ret (de_cmp (opd_eq (Dl.Room.u64 B.hr)) (de_cb (cd_reprM B.gd (Dl.Room.u64 B.hr)) rfl T.b_repr boot_repr (da_cons (de_var (pv 0)) da_nil)) (de_cb (cd_reprM B.gd (Dl.Room.u64 B.hr)) rfl T.b_repr boot_repr (da_cons (de_var (pv 1)) da_nil)) (nomark _))))) (fun ys m F P h => ?_)
  obtain ⟨y, z, d, rfl, hy, hz, ⟨h1, h2, h3, h4⟩, h⟩ := h
  refine ⟨rfl, _, rfl, y, d, rfl, hy, h1, h2, h3, h4, _, rfl, z, d, rfl, hz, h1, h2, h3, h4, ?_⟩
  show F (.d (.bool (decide (d.shown = d.shown)))) m
  rw [decide_eq_true rfl]
  exact h
abbrev s_law_made : Stmt := top 22
abbrev N_law_made : List Str := ["_law_place", "_law_units"]
theorem sc_law_made : FnScope N_law_made ["_law_place", "_law_units"] (defScope s_law_made) := ⟨rfl, rfl, rfl, by decide +kernel, rfl, by decide +kernel, by decide +kernel⟩
theorem make_line {C : Addr} {u : Int} {i : Nat} {r : Ro} {m : Mu} {F : Y → Mu → Prop} {P : XP} (hu : r[i]? = some (some (.d (.int u)))) (u1 : 1 ≤ u) (u3 : u ≤ 3) (h : ∀ a p m', m a = none → m p = none → At C m' a u p [] → Mle m m' → F (.l a) m') : xMake C (d_init C) [] (xCons (xVar i) xNil) r m F P :=
  ⟨_, hu, fun a dx na => ⟨a, dx, u, rfl, u1, u3, mu_same, fun p m4 hp A hm4 => ⟨rfl, h a p m4 na (mu_none hp).2 A (made_le na hp hm4)⟩⟩⟩
def d_law_made (C0 C1 C2 : Addr) : DSp := fun ys m F _ => ∃ (j : Nat) (u : Int), ys = [.d (.int (j : Int)), .d (.int u)] ∧ j < 3 ∧ 1 ≤ u ∧ u ≤ 3 ∧ ∀ a p m', m a = none → m p = none → At (fn3 C0 C1 C2 j) m' a u p [] → Mle m m' → F (.l a) m'
theorem ok_law_made {f : Addr} {fd : FuncData} (F : Fun K "_law_made" "_law_made" s_law_made f fd) (T : TxtS K mg) {C0 C1 C2 f0 f1 f2 : Addr} {fd0 fd1 fd2 : FuncData} (N_Line : NF P w K mg base "Line" C0 3 f0 fd0 ["self", "units"] (d_init C0)) (N_RankLine : NF P w K mg base "RankLine" C1 3 f1 fd1 ["self", "units"] (d_init C1)) (N_PreemptLine : NF P w K mg base "PreemptLine" C2 3 f2 fd2 ["self", "units"] (d_init C2)) : FnD P w K mg base 5 f fd ["_law_place", "_law_units"] (d_law_made C0 C1 C2) := by
  refine Dl.Fun.dok F sc_law_made _ (fun cdv A outer s H E B hp =>
      (dss_cons (ds_if (dt_cmp (opd_eq (Dl.Room.u64 B.hr)) (de_var (pv 0)) (de_int) (nomark _))
      (dss_one (ds_ret (de_nf N_Line B.hr B.gd B.tk rfl (da_cons (de_var (pv 1)) da_nil))))
      dss_nil)
      (dss_one (ds_ret (de_if (dt_cmp (opd_eq (Dl.Room.u64 B.hr)) (de_var (pv 0)) (de_int) (nomark _)) (de_nf N_RankLine B.hr B.gd B.tk rfl (da_cons (de_var (pv 1)) da_nil)) (de_nf N_PreemptLine B.hr B.gd B.tk rfl (da_cons (de_var (pv 1)) da_nil))))))) (fun ys m F P h => ?_)
  obtain ⟨j, u, rfl, hj, u1, u3, h⟩ := h
  refine ⟨rfl, vc_eqc (o := (j : Int)) rfl (iteD (fun e => ?_) (fun e => vc_eqc (o := (j : Int)) rfl (iteD (fun e1 => ?_) (fun e1 => ?_))))⟩
  · obtain rfl : j = 0 := by omega
    exact make_line rfl u1 u3 h
  · obtain rfl : j = 1 := by omega
    exact make_line rfl u1 u3 h
  · obtain rfl : j = 2 := by omega
    exact make_line rfl u1 u3 h
abbrev s_law_request : Stmt := top 23
abbrev N_law_request : List Str := ["_law_requests", "_law_units", "_law_process", "_law_rank", "_law_gets", "_law_one"]
theorem sc_law_request : FnScope N_law_request ["_law_requests", "_law_units", "_law_process", "_law_rank"] (defScope s_law_request) := ⟨rfl, rfl, rfl, by decide +kernel, rfl, by decide +kernel, by decide +kernel⟩
def hK (m : Mu) (z : Y) : Option Y := match z with
  | .l b => (match m b with
    | some (.lst [_, _, .d (.bool true)]) => some (.l b)
    | _ => none)
  | _ => none
theorem hK_len {m : Mu} : ∀ {bs : List Addr} {rs : List Rq}, Paired (fun b r => m b = some (.lst (rowY r))) bs rs → ((bs.map Y.l).filterMap (hK m)).length = heldN rs
  | _, _, .nil => rfl
  | b :: bs, ⟨k, i, true⟩ :: rs, .cons h t => by
    have e : hK m (.l b) = some (.l b) := by unfold hK; simp only [h, rowY]
    rw [List.map_cons, List.filterMap_cons, e]
    simp only [List.length_cons, hK_len t, heldN, List.filter_cons, if_pos]
  | b :: bs, ⟨k, i, false⟩ :: rs, .cons h t => by
    have e : hK m (.l b) = none := by unfold hK; simp only [h, rowY]
    rw [List.map_cons, List.filterMap_cons, e]
    simp only [hK_len t, heldN, List.filter_cons]
    rfl
def d_law_request : DSp := fun ys m F _ => ∃ q u i k bs rs, ys = [.l q, .d (.int u), .d (.int i), .d (.int k)] ∧ LAt m q bs rs ∧ rs.length ≤ 5000 ∧
  ∀ bs' m', LAt m' q bs' (rs ++ [⟨k, i, decide ((heldN rs : Int) < u)⟩]) → Fr (fun x => x = q) m m' → (∀ b ∈ bs', b ∈ bs ∨ m b = none) → F (.d (.bool (decide ((heldN rs : Int) < u)))) m'
theorem ok_law_request {f : Addr} {fd : FuncData} (F : Fun K "_law_request" "_law_request" s_law_request f fd) (T : TxtS K mg)  : FnD P w K mg base 1 f fd ["_law_requests", "_law_units", "_law_process", "_law_rank"] d_law_request := by
  refine Dl.Fun.dok F sc_law_request _ (fun cdv A outer s H E B hp =>
      (dss_cons (ds_set (i := 4) sc_law_request.nd rfl (by first | exact Or.inl rfl | exact Or.inr rfl) (de_cmp opd_lt (de_cb cd_len rfl T.b_len boot_len (da_cons (de_lc (fin := finM) finM_ok rfl sc_law_request.nd (di_seq (de_var (pv 0))) (blkOk_by (own := [("_law_one", 5)]) (N := N_law_request) (sc := defScope s_law_request) (by decide +kernel)) (fun _ _ _ _ _ => pg_name (i := 5) sc_law_request.nd rfl (by first | exact Or.inl rfl | exact Or.inr rfl)) (dgw_name (i := 5) (by decide)) (fun _ _ _ _ _ => dts_one (dt_tru (de_ix (de_var (pv 5)) (de_int) (by intro _ _; rfl)))) (fun _ _ _ _ _ => de_var (pv 5))) da_nil)) (de_var (pv 1)) (nomark _)))
      (dss_cons (ds_expr (de_bm md_append PySem.F.plainAttrs_list PySem.F.slot_list_append PySem.F.type_list_append (de_var (pv 0)) (da_cons (de_lstM (da_cons (de_var (pv 3)) (da_cons (de_var (pv 2)) (da_cons (de_var (pv 4)) da_nil)))) da_nil)))
      (dss_one (ds_ret (de_var (pv 4))))))) (fun ys m F P h => ?_)
  obtain ⟨q, u, i, k, bs, rs, rfl, A, hl, h⟩ := h
  have hbl := rows_len A.rows
  refine ⟨rfl, _, rfl, bs.map Y.l, .inl A.ls, ?_⟩
  refine lc_seq (hK m) (by rw [List.length_map]; omega) (fun q' e => by cases e; rw [A.ls]; exact Option.some_ne_none _) (fun z M hz hM C' N' hC hN => ?_) (fun D M hD hM => ?_)
  · obtain ⟨b, hb, rfl⟩ := List.mem_map.mp hz
    obtain ⟨r, hr, hm⟩ := rows_mem A.rows hb
    refine ⟨_, rfl, 2, _, .d (.bool r.held), rfl, .inl (hM _ _ hm), at_nat (n := 2) rfl, r.held, tru_b _, ?_⟩
    cases hh : r.held with
    | true => exact iteT ⟨_, rfl, hC _ M (by show hK m (.l b) = _; unfold hK; simp only [hm, rowY, hh]) Mle.refl⟩
    | false => exact iteF (hN M (by show hK m (.l b) = _; unfold hK; simp only [hm, rowY, hh]) Mle.refl)
  · refine ⟨_, _, rfl, .inr (.inl (hM D _ mu_same)), ?_⟩
    rw [hK_len A.rows]
    have hmM : Mle m M := (Mle.new hD).trans hM
    have AM := A.le hmM
    refine ⟨_, rfl, ?_⟩
    refine ⟨_, rfl, .inl ⟨rfl, _, AM.ls⟩, _, rfl, _, rfl, _, rfl, len3 _ _ _, fun b hb => ?_⟩
    have bq : q ≠ b := fun e => by subst e; rw [AM.ls] at hb; cases hb
    refine ⟨q, bs.map Y.l, .l b, rfl, rfl, (mu_ne bq).trans AM.ls, by rw [List.length_map]; omega, _, rfl, ?_⟩
    obtain ⟨h1, h2⟩ := AM.ask (r := ⟨k, i, decide ((heldN rs : Int) < u)⟩) (m' := mu (mu M b (.lst (rowY ⟨k, i, decide ((heldN rs : Int) < u)⟩))) q (.lst (bs.map Y.l ++ [.l b]))) hb (by rw [List.map_append]; exact Mle.refl)
    exact h _ _ h1 (fun x o hx e => h2 x o hx (hmM x o e)) fun x hx => (List.mem_append.mp hx).imp id fun z => by rw [List.mem_singleton.mp z]; exact hmM.none hb
abbrev s_law_key : Stmt := top 24
abbrev N_law_key : List Str := ["_law_place", "_law_units", "_law_requests"]
theorem sc_law_key : FnScope N_law_key ["_law_place", "_law_units", "_law_requests"] (defScope s_law_key) := ⟨rfl, rfl, rfl, by decide +kernel, rfl, by decide +kernel, by decide +kernel⟩
/-- the requests' numbers are small -/
def OkR (rs : List Rq) : Prop := ∀ r ∈ rs, (0 ≤ r.rank ∧ r.rank ≤ 9) ∧ 0 ≤ r.proc ∧ r.proc ≤ 5
theorem okR_ask {rs : List Rq} {u i k : Int} (h : OkR rs) (i0 : 0 ≤ i) (i5 : i ≤ 5) (k0 : 0 ≤ k) (k9 : k ≤ 9) : OkR (askF u rs i k) := fun r hr => by
  rcases List.mem_append.mp hr with hr | hr
  · exact h r hr
  · have := List.mem_singleton.mp hr
    subst this
    exact ⟨⟨k0, k9⟩, i0, i5⟩
abbrev rowD (r : Rq) : PyData := .list [ri r.rank, ri r.proc, .bool r.held]
def keyD (j : Nat) (u : Int) (rs : List Rq) : PyData := .tuple [.int (j : Int), .int u, .list (rs.map rowD)]
theorem ok_key {j : Nat} {u : Int} {rs : List Rq} (hj : j < 3) (u1 : 1 ≤ u) (u3 : u ≤ 3) (h : OkR rs) (hl : rs.length ≤ 24) : okD (keyD j u rs) := by
  have a1 : ok4 (.list (rs.map rowD)) 3 (3 + (rs.map rowD).length * (3 + 3 * 2002 + 2)) := ok4_lst (n := 2) (c := 3 + 3 * 2002) fun d hd => by
    obtain ⟨r, hr, rfl⟩ := List.mem_map.mp hd
    have := h r hr
    refine ok4_lst (n := 1) (c := 2000) fun x hx => ?_
    simp only [List.mem_cons, List.not_mem_nil, or_false] at hx
    rcases hx with rfl | rfl | rfl
    · exact ok4_int (by omega)
    · exact ok4_int (by omega)
    · exact ⟨by simp [PyData.showable], by simp [PyData.hasDict], by simp [PyData.depth], by simp only [cst]; omega⟩
  rw [List.length_map] at a1
  refine ok4_ok (ok4_tup (n := 3) (c := 200000) fun d hd => ?_) (by decide) (by simp only [List.length_cons, List.length_nil]; omega)
  simp only [List.mem_cons, List.not_mem_nil, or_false] at hd
  rcases hd with rfl | rfl | rfl
  · exact ok4_up (ok4_int (by omega)) (by decide) (by decide)
  · exact ok4_up (ok4_int (by omega)) (by decide) (by decide)
  · exact ok4_up a1 (by decide) (by omega)
theorem deep_rows {m : Mu} : ∀ {bs : List Addr} {rs : List Rq}, Paired (fun b r => m b = some (.lst (rowY r))) bs rs → DeepYs m (bs.map Y.l) (rs.map rowD)
  | _, _, .nil => .nil
  | _, _, .cons h t => .cons (.l h (.cons (.d _) (.cons (.d _) (.cons (.d _) .nil)))) (deep_rows t)
def d_law_key : DSp := fun ys m F _ => ∃ j u q bs rs, ys = [.d (.int ((j : Nat) : Int)), .d (.int u), .l q] ∧ LAt m q bs rs ∧ okD (keyD j u rs) ∧ ∀ m', Mle m m' → F (.d (.str (keyD j u rs).shown)) m'
theorem ok_law_key {f : Addr} {fd : FuncData} (F : Fun K "_law_key" "_law_key" s_law_key f fd) (T : TxtS K mg)  : FnD P w K mg base 1 f fd ["_law_place", "_law_units", "_law_requests"] d_law_key := by
  refine Dl.Fun.dok F sc_law_key _ (fun cdv A outer s H E B hp =>
      (dss_one (ds_ret (de_cb (cd_reprM B.gd (Dl.Room.u64 B.hr)) rfl T.b_repr boot_repr (da_cons (de_tup (da_cons (de_var (pv 0)) (da_cons (de_var (pv 1)) (da_cons (de_var (pv 2)) da_nil)))) da_nil))))) (fun ys m F P h => ?_)
  obtain ⟨j, u, q, bs, rs, rfl, A, ⟨h1, h2, h3, h4⟩, h⟩ := h
  refine ⟨rfl, _, rfl, _, rfl, _, rfl, len3 _ _ _, fun p hp => ?_⟩
  have A1 := A.le (Mle.new (o := .tup [.d (.int (j : Int)), .d (.int u), .l q]) hp)
  exact ⟨.l p, keyD j u rs, rfl, .t mu_same (.cons (.d _) (.cons (.d _) (.cons (.l A1.ls (deep_rows A1.rows)) .nil))), h1, h2, h3, h4, h _ (Mle.new hp)⟩
abbrev s_law_written : Stmt := top 25
abbrev N_law_written : List Str := ["_law_place", "_law_units", "_law_requests", "_law_waiting", "_law_one"]
theorem sc_law_written : FnScope N_law_written ["_law_place", "_law_units", "_law_requests"] (defScope s_law_written) := ⟨rfl, rfl, rfl, by decide +kernel, rfl, by decide +kernel, by decide +kernel⟩
theorem nm3_len {j : Nat} (hj : j < 3) : (nm3 j).length ≤ 11 := by
  match j, hj with
  | 0, _ => decide +kernel
  | 1, _ => decide +kernel
  | 2, _ => decide +kernel
theorem nm3_at {j : Nat} (hj : j < 3) : ([PyData.str "Line", .str "RankLine", .str "PreemptLine"].map Y.d)[j]? = some (.d (.str (nm3 j))) := by
  match j, hj with
  | 0, _ => rfl
  | 1, _ => rfl
  | 2, _ => rfl
/-- how many wait -/
def waitN (rs : List Rq) : Nat := (rs.filter fun r => !r.held).length
def hW (m : Mu) (z : Y) : Option Y := match z with
  | .l b => (match m b with
    | some (.lst [_, _, .d (.bool false)]) => some (.l b)
    | _ => none)
  | _ => none
theorem hW_len {m : Mu} : ∀ {bs : List Addr} {rs : List Rq}, Paired (fun b r => m b = some (.lst (rowY r))) bs rs → ((bs.map Y.l).filterMap (hW m)).length = waitN rs
  | _, _, .nil => rfl
  | b :: bs, ⟨k, i, false⟩ :: rs, .cons h t => by
    have e : hW m (.l b) = some (.l b) := by unfold hW; simp only [h, rowY]
    rw [List.map_cons, List.filterMap_cons, e]
    simp only [List.length_cons, hW_len t, waitN, List.filter_cons]
    rfl
  | b :: bs, ⟨k, i, true⟩ :: rs, .cons h t => by
    have e : hW m (.l b) = none := by unfold hW; simp only [h, rowY]
    rw [List.map_cons, List.filterMap_cons, e]
    simp only [hW_len t, waitN, List.filter_cons]
    rfl
def wrT (j : Nat) (u : Int) (n : Nat) : Str := ((((nm3 j ++ ("(" : Str)) ++ Str.ofString (toString u)) ++ (" units, " : Str)) ++ Str.ofString (toString (n : Int))) ++ (" waiting)" : Str)
def d_law_written : DSp := fun ys m F _ => ∃ j u q bs rs, ys = [.d (.int ((j : Nat) : Int)), .d (.int u), .l q] ∧ j < 3 ∧ 1 ≤ u ∧ u ≤ 3 ∧ LAt m q bs rs ∧ rs.length ≤ 5000 ∧ ∀ m', Mle m m' → F (.d (.str (wrT j u (waitN rs)))) m'
theorem ok_law_written {f : Addr} {fd : FuncData} (F : Fun K "_law_written" "_law_written" s_law_written f fd) (T : TxtS K mg)  : FnD P w K mg base 1 f fd ["_law_place", "_law_units", "_law_requests"] d_law_written := by
  refine Dl.Fun.dok F sc_law_written _ (fun cdv A outer s H E B hp =>
      (dss_cons (ds_set (i := 3) sc_law_written.nd rfl (by first | exact Or.inl rfl | exact Or.inr rfl) (de_cb cd_len rfl T.b_len boot_len (da_cons (de_lc (fin := finM) finM_ok rfl sc_law_written.nd (di_seq (de_var (pv 2))) (blkOk_by (own := [("_law_one", 4)]) (N := N_law_written) (sc := defScope s_law_written) (by decide +kernel)) (fun _ _ _ _ _ => pg_name (i := 4) sc_law_written.nd rfl (by first | exact Or.inl rfl | exact Or.inr rfl)) (dgw_name (i := 4) (by decide)) (fun _ _ _ _ _ => dts_one (dt_not (dt_tru (de_ix (de_var (pv 4)) (de_int) (by intro _ _; rfl))))) (fun _ _ _ _ _ => de_var (pv 4))) da_nil)))
      (dss_one (ds_ret (de_op opd_add (de_op opd_add (de_op opd_add (de_op opd_add (de_op opd_add (de_ix (de_lst (da_cons (de_str) (da_cons (de_str) (da_cons (de_str) da_nil)))) (de_var (pv 0)) (by intro _ _; rfl)) (de_str)) (de_cty cd_str rfl T.b_str boot_str (da_cons (de_var (pv 1)) da_nil))) (de_str)) (de_cty cd_str rfl T.b_str boot_str (da_cons (de_var (pv 3)) da_nil))) (de_str)))))) (fun ys m F P h => ?_)
  obtain ⟨j, u, q, bs, rs, rfl, hj, u1, u3, A, hl, h⟩ := h
  have hbl := rows_len A.rows
  refine ⟨rfl, _, rfl, bs.map Y.l, .inl A.ls, ?_⟩
  refine lc_seq (hW m) (by rw [List.length_map]; omega) (fun q' e => by cases e; rw [A.ls]; exact Option.some_ne_none _) (fun z M hz hM C' N' hC hN => ?_) (fun D M hD hM => ?_)
  · obtain ⟨b, hb, rfl⟩ := List.mem_map.mp hz
    obtain ⟨r, hr, hm⟩ := rows_mem A.rows hb
    refine ⟨_, rfl, 2, _, .d (.bool r.held), rfl, .inl (hM _ _ hm), at_nat (n := 2) rfl, r.held, tru_b _, ?_⟩
    cases hh : r.held with
    | true => exact iteE rfl (hN M (by show hW m (.l b) = _; unfold hW; simp only [hm, rowY, hh]) Mle.refl)
    | false => exact iteI rfl ⟨_, rfl, hC _ M (by show hW m (.l b) = _; unfold hW; simp only [hm, rowY, hh]) Mle.refl⟩
  · refine ⟨_, _, rfl, .inr (.inl (hM D _ mu_same)), ?_⟩
    rw [hW_len A.rows]
    have hmM : Mle m M := (Mle.new hD).trans hM
    have hwl : waitN rs ≤ 5000 := Nat.le_trans (List.length_filter_le _ _) hl
    have hf := fmt_len (fmt_i (log_small (i := u) (Nat.lt_of_le_of_lt (show u.natAbs ≤ 5 by omega) (by decide +kernel))))
    have hf2 := fmt_len (fmt_i (log_small (i := ((waitN rs : Nat) : Int)) (Nat.lt_of_le_of_lt (show ((waitN rs : Nat) : Int).natAbs ≤ 5000 by omega) (by decide +kernel))))
    have z1 := nm3_len hj
    have z2 : (Str.ofString "(").length = 1 := by decide +kernel
    have z3 : (Str.ofString " units, ").length = 8 := by decide +kernel
    have z4 : (Str.ofString " waiting)").length = 9 := by decide +kernel
    have e1 := nm3_at hj
    refine ⟨len3 _ _ _, [_, _, _], rfl, _, rfl, (j : Int), _, _, rfl, rfl, at_nat e1, ?_⟩
    refine ⟨by rw [z2]; omega, _, rfl, u, rfl, log_small (Nat.lt_of_le_of_lt (show u.natAbs ≤ 5 by omega) (by decide +kernel)), by rw [str_app, z2]; omega, by rw [str_app, str_app, z2, z3]; omega, ?_⟩
    refine ⟨_, rfl, _, rfl, log_small (Nat.lt_of_le_of_lt (show ((waitN rs : Nat) : Int).natAbs ≤ 5000 by omega) (by decide +kernel)), by rw [str_app, str_app, str_app, z2, z3]; omega, by rw [str_app, str_app, str_app, str_app, z2, z3, z4]; omega, ?_⟩
    exact h M hmM
abbrev s_law_is_kind : Stmt := top 26
abbrev N_law_is_kind : List Str := ["_law_place", "_law_line", "_law_kinds"]
theorem sc_law_is_kind : FnScope N_law_is_kind ["_law_place", "_law_line"] (defScope s_law_is_kind) := ⟨rfl, rfl, rfl, by decide +kernel, rfl, by decide +kernel, by decide +kernel⟩
theorem kind_l {j : Nat} (hj : j < 3) : (PyData.list [PyData.bool (decide (0 ≤ j)), .bool (decide (1 ≤ j)), .bool (decide (2 ≤ j))]) = .list [.bool true, .bool (decide ((0 : Int) < (j : Int))), .bool (decide ((1 : Int) < (j : Int)))] := by
  match j, hj with
  | 0, _ => rfl
  | 1, _ => rfl
  | 2, _ => rfl
theorem kind_s (a b c : Bool) : SeqAt.shaped (.list [PyData.bool a, .bool b, .bool c]) = true := by cases a <;> cases b <;> cases c <;> decide +kernel
theorem ok_33 : okD (.list [.int 3, .int 3]) := ok4_ok (ok4_lst (n := 1) (c := 2000) fun d hd => by
  simp only [List.mem_cons, List.not_mem_nil, or_false] at hd
  rcases hd with rfl | rfl <;> exact ok4_int (by decide)) (by decide) (by decide)
def d_law_is_kind (C0 C1 C2 : Addr) : DSp := fun ys m F _ => ∃ j a u p rs, ys = [.d (.int ((j : Nat) : Int)), .l a] ∧ j < 3 ∧ At (fn3 C0 C1 C2 j) m a u p rs ∧ F (.d (.bool true)) m
theorem ok_law_is_kind {f : Addr} {fd : FuncData} (F : Fun K "_law_is_kind" "_law_is_kind" s_law_is_kind f fd) (T : TxtS K mg) {C0 C1 C2 : Addr} {t0 : Tok} (HI : ∀ j, j < 3 → ClsI K (fn3 C0 C1 C2 j) ∧ NmC K (fn3 C0 C1 C2 j) (nm3 j) ∧ Lin K (fn3 C0 C1 C2 j)) (HK : ∀ i k, i < 3 → k < 3 → PySem.W.kitOne K (.ref (fn3 C0 C1 C2 k)) (.ref (fn3 C0 C1 C2 i)) = some (decide (i ≤ k))) {f1 : Addr} {fd1 : FuncData} (k_Line : mg "Line" = some (.ref C0)) (k_RankLine : mg "RankLine" = some (.ref C1)) (k_PreemptLine : mg "PreemptLine" = some (.ref C2)) (R_Line : ClX.CRead K C0 (.type "type")) (V_Line_MOST_UNITS : ClX.CVal K C0 (.type "type") "MOST_UNITS" (.int 3) (.int 3 t0)) (G_law_same : GF P w K mg base "_law_same" 1 f1 fd1 ["_law_actual", "_law_expected"] d_law_same) : FnD P w K mg base 2 f fd ["_law_place", "_law_line"] (d_law_is_kind C0 C1 C2) := by
  refine Dl.Fun.dok F sc_law_is_kind _ (fun cdv A outer s H E B hp =>
      (dss_cons (ds_set (i := 2) sc_law_is_kind.nd rfl (by first | exact Or.inl rfl | exact Or.inr rfl) (de_lst (da_cons (de_cb (kisO K) rfl T.b_isinstance boot_isinstance (da_cons (de_var (pv 1)) (da_cons (de_gr rfl k_Line) da_nil))) (da_cons (de_cb (kisO K) rfl T.b_isinstance boot_isinstance (da_cons (de_var (pv 1)) (da_cons (de_gr rfl k_RankLine) da_nil))) (da_cons (de_cb (kisO K) rfl T.b_isinstance boot_isinstance (da_cons (de_var (pv 1)) (da_cons (de_gr rfl k_PreemptLine) da_nil))) da_nil)))))
      (dss_one (ds_ret (de_and (de_cmp (opd_eq (Dl.Room.u64 B.hr)) (de_var (pv 2)) (de_lst (da_cons (de_bl) (da_cons (de_cmp opd_gt (de_var (pv 0)) (de_int) (nomark _)) (da_cons (de_cmp opd_gt (de_var (pv 0)) (de_int) (nomark _)) da_nil)))) (nomark _)) (de_one (de_gf G_law_same B.hr B.gd B.tk rfl (da_cons (de_lst (da_cons (kcon K (de_var (pv 1))) (da_cons (de_cval (de_gr rfl k_Line) R_Line V_Line_MOST_UNITS (fun _ => .d (.int _))) da_nil))) (da_cons (de_lst (da_cons (de_int) (da_cons (de_int) da_nil))) da_nil))))))))) (fun ys m F P h => ?_)
  obtain ⟨j, a, u, p, rs, rfl, hj, A, h⟩ := h
  obtain ⟨dx, ho⟩ := A.ob
  obtain ⟨i1, n1, l1⟩ := HI j hj
  obtain ⟨t, hM⟩ := l1.mU
  refine ⟨rfl, _, rfl, .l a, _, _, _, _, rfl, .inl ⟨_, rfl, rfl⟩, .ins ho i1, HK 0 j (by decide) hj, ?_⟩
  refine ⟨_, rfl, .l a, _, _, _, _, rfl, .inl ⟨_, rfl, rfl⟩, .ins ho i1, HK 1 j (by decide) hj, ?_⟩
  refine ⟨_, rfl, .l a, _, _, _, _, rfl, .inl ⟨_, rfl, rfl⟩, .ins ho i1, HK 2 j (by decide) hj, ?_⟩
  refine ⟨len3 _ _ _, [_, _, _], rfl, ?_⟩
  have ek := kind_l hj
  refine ⟨_, rfl, _, rfl, _, rfl, len3 _ _ _, [_, _, _], rfl, kind_s _ _ _, kind_s _ _ _, _, rfl, ?_⟩
  rw [ek, eqv_me (kind_s _ _ _)]
  refine iteI rfl ?_
  refine ⟨_, rfl, a, _, dx, _, _, _, _, rfl, ho, l1.cl, hM, rfl, fun G => .d (.int 3), rfl, len2 _ _, [_, _], rfl, len2 _ _, [_, _], rfl, ?_⟩
  exact ⟨_, _, .list [.int 3, .int 3], rfl, .d _, .d _, ok_33, h⟩
abbrev s_law : Stmt := top 27
abbrev N_law : List Str := ["_law_script", "_law_cell", "_law_pen_here", "_law_lines", "_law_keys", "_law_lap", "_law_place", "_law_units", "_law_requests", "_law_one", "_law_other", "_law_before", "_law_more", "_law_process", "_law_rank", "_law_written_here", "_law_first", "_law_line", "_law_second", "_law_alike", "_law_thing"]
theorem sc_law : FnScope N_law ["_law_script"] (defScope s_law) := ⟨rfl, rfl, rfl, by decide +kernel, rfl, by decide +kernel, by decide +kernel⟩
def kf (j : Nat) : Int := if j = 0 then 0 else 1
abbrev nmO (j : Nat) : Str := fn3 "Line(" "RankLine(" "PreemptLine(" j
abbrev tyS : List String := ["NoneType", "bool", "int", "str", "tuple", "list"]
/-! ### the texts of two keys differ where the keys do -/
abbrev cp (x : Str) : List Nat := x.cps.toList
theorem cp_app (a b : Str) : cp (a ++ b) = cp a ++ cp b := by
  show (a.cps ++ b.cps).toList = _
  exact Array.toList_append
theorem cp_dig {i : Int} (h : 0 ≤ i) (h9 : i ≤ 9) : cp (PyData.int i).shown = [48 + i.toNat] := by
  obtain ⟨n, rfl⟩ := Int.eq_ofNat_of_zero_le h
  have hn : n ≤ 9 := by omega
  match n, hn with
  | 0, _ => decide +kernel
  | 1, _ => decide +kernel
  | 2, _ => decide +kernel
  | 3, _ => decide +kernel
  | 4, _ => decide +kernel
  | 5, _ => decide +kernel
  | 6, _ => decide +kernel
  | 7, _ => decide +kernel
  | 8, _ => decide +kernel
  | 9, _ => decide +kernel
def tfC (b : Bool) : List Nat := if b then [84, 114, 117, 101] else [70, 97, 108, 115, 101]
theorem cp_bool (b : Bool) : cp (PyData.bool b).shown = tfC b := by cases b <;> decide +kernel
def rowC (r : Rq) : List Nat := 91 :: (48 + r.rank.toNat) :: 44 :: 32 :: (48 + r.proc.toNat) :: 44 :: 32 :: (tfC r.held ++ [93])
abbrev Sm (r : Rq) : Prop := (0 ≤ r.rank ∧ r.rank ≤ 9) ∧ 0 ≤ r.proc ∧ r.proc ≤ 5
theorem c_nil : cp (Str.ofString "") = [] := by decide +kernel
theorem c_lb : cp (Str.ofString "[") = [91] := by decide +kernel
theorem c_rb : cp (Str.ofString "]") = [93] := by decide +kernel
theorem c_lp : cp (Str.ofString "(") = [40] := by decide +kernel
theorem c_rp : cp (Str.ofString ")") = [41] := by decide +kernel
theorem c_cm : cp (Str.ofString ", ") = [44, 32] := by decide +kernel
theorem cp_row {r : Rq} (h : Sm r) : cp (rowD r).shown = rowC r := by
  show cp (listText [(PyData.int r.rank).shown, (PyData.int r.proc).shown, (PyData.bool r.held).shown]) = _
  unfold listText
  simp only [textFrom]
  have z0 : (if 0 > 0 then ", " else "") = "" := rfl
  have z1 : (if 0 + 1 > 0 then ", " else "") = ", " := rfl
  have z2 : (if 0 + 1 + 1 > 0 then ", " else "") = ", " := rfl
  rw [z0, z1, z2]
  simp only [cp_app, c_lb, c_rb, c_cm, c_nil, cp_bool]
  rw [cp_dig h.1.1 h.1.2, cp_dig h.2.1 (by have := h.2.2; omega)]
  simp [rowC]
theorem cp_from : ∀ (ts : List Str) (k : Nat) (acc : Str), 0 < k → cp (textFrom k acc ts) = cp acc ++ ts.flatMap fun t => 44 :: 32 :: cp t
  | [], _, _, _ => by simp [textFrom]
  | t :: ts, k, acc, hk => by
    simp only [textFrom]
    rw [cp_from ts (k + 1) _ (Nat.succ_pos k), if_pos hk]
    simp only [cp_app, c_cm]
    simp
def tailC (rs : List Rq) : List Nat := rs.flatMap fun r => 44 :: 32 :: rowC r
def bodyC : List Rq → List Nat
  | [] => []
  | r :: rs => rowC r ++ tailC rs
theorem shown_rows (rs : List Rq) : (PyData.list (rs.map rowD)).shown = listText (rs.map fun r => (rowD r).shown) := by
  have : ∀ rs : List Rq, PyData.shownAll (rs.map rowD) = rs.map fun r => (rowD r).shown := fun rs => by
    induction rs with
    | nil => rfl
    | cons r rs ih => rw [List.map_cons, List.map_cons, ← ih]; rfl
  rw [← this]; rfl
theorem cp_rows {rs : List Rq} (h : ∀ r ∈ rs, Sm r) : cp (PyData.list (rs.map rowD)).shown = 91 :: (bodyC rs ++ [93]) := by
  rw [shown_rows]
  unfold listText
  rw [cp_app, c_rb]
  cases rs with
  | nil => simp [textFrom, c_lb, bodyC]
  | cons r rs =>
    rw [List.map_cons]
    simp only [textFrom]
    rw [cp_from _ (0 + 1) _ (Nat.succ_pos 0)]
    have z0 : (if 0 > 0 then ", " else "") = "" := rfl
    rw [z0]
    simp only [cp_app, c_lb, c_nil]
    rw [cp_row (h r List.mem_cons_self)]
    have e : ∀ rs : List Rq, (∀ r ∈ rs, Sm r) → ((rs.map fun r => (rowD r).shown).flatMap fun t => 44 :: 32 :: cp t) = tailC rs := by
      intro rs
      induction rs with
      | nil => intro _; rfl
      | cons s ss ih =>
        intro hs
        rw [List.map_cons, List.flatMap_cons, cp_row (hs s List.mem_cons_self), ih fun r hr => hs r (List.mem_cons_of_mem _ hr)]
        simp [tailC]
    rw [e rs fun r hr => h r (List.mem_cons_of_mem _ hr)]
    simp [bodyC]
theorem row_inj {r s : Rq} {X Y : List Nat} (h1 : Sm r) (h2 : Sm s) (e : rowC r ++ X = rowC s ++ Y) : r = s ∧ X = Y := by
  unfold rowC at e
  simp only [List.cons_append, List.cons.injEq, true_and] at e
  obtain ⟨e1, e2, e3⟩ := e
  obtain ⟨⟨a1, a2⟩, a3, a4⟩ := h1
  obtain ⟨⟨b1, b2⟩, b3, b4⟩ := h2
  have q1 : r.rank = s.rank := by omega
  have q2 : r.proc = s.proc := by omega
  cases hr : r.held with
  | true =>
    cases hs : s.held with
    | true =>
      rw [hr, hs] at e3
      exact ⟨Rq.ext' q1 q2 (by rw [hr, hs]), by simpa [tfC] using e3⟩
    | false => rw [hr, hs] at e3; simp [tfC] at e3
  | false =>
    cases hs : s.held with
    | true => rw [hr, hs] at e3; simp [tfC] at e3
    | false =>
      rw [hr, hs] at e3
      exact ⟨Rq.ext' q1 q2 (by rw [hr, hs]), by simpa [tfC] using e3⟩
theorem tail_inj : ∀ {rs ss : List Rq}, (∀ r ∈ rs, Sm r) → (∀ r ∈ ss, Sm r) → ∀ {X Y : List Nat}, tailC rs ++ (93 :: X) = tailC ss ++ (93 :: Y) → rs = ss
  | [], [], _, _, _, _, _ => rfl
  | [], s :: ss, _, _, X, Y, e => by simp [tailC] at e
  | r :: rs, [], _, _, X, Y, e => by simp [tailC] at e
  | r :: rs, s :: ss, h1, h2, X, Y, e => by
    have e' : rowC r ++ (tailC rs ++ (93 :: X)) = rowC s ++ (tailC ss ++ (93 :: Y)) := by simpa [tailC] using e
    obtain ⟨q1, q2⟩ := row_inj (h1 r List.mem_cons_self) (h2 s List.mem_cons_self) e'
    rw [q1, tail_inj (fun r hr => h1 r (List.mem_cons_of_mem _ hr)) (fun r hr => h2 r (List.mem_cons_of_mem _ hr)) q2]
theorem body_inj {rs ss : List Rq} (h1 : ∀ r ∈ rs, Sm r) (h2 : ∀ r ∈ ss, Sm r) {X Y : List Nat} (e : bodyC rs ++ (93 :: X) = bodyC ss ++ (93 :: Y)) : rs = ss := by
  match rs, ss, h1, h2, e with
  | [], [], _, _, _ => rfl
  | [], s :: ss, _, _, e => simp [bodyC, rowC] at e
  | r :: rs, [], _, _, e => simp [bodyC, rowC] at e
  | r :: rs, s :: ss, h1, h2, e =>
    have e' : rowC r ++ (tailC rs ++ (93 :: X)) = rowC s ++ (tailC ss ++ (93 :: Y)) := by simpa [bodyC] using e
    obtain ⟨q1, q2⟩ := row_inj (h1 r List.mem_cons_self) (h2 s List.mem_cons_self) e'
    rw [q1, tail_inj (fun r hr => h1 r (List.mem_cons_of_mem _ hr)) (fun r hr => h2 r (List.mem_cons_of_mem _ hr)) q2]
theorem cp_key {j : Nat} {u : Int} {rs : List Rq} (hj : j < 3) (u1 : 1 ≤ u) (u3 : u ≤ 3) (h : ∀ r ∈ rs, Sm r) : cp (keyD j u rs).shown = 40 :: (48 + j) :: 44 :: 32 :: (48 + u.toNat) :: 44 :: 32 :: 91 :: (bodyC rs ++ (93 :: [41])) := by
  show cp (tupleText [(PyData.int (j : Int)).shown, (PyData.int u).shown, (PyData.list (rs.map rowD)).shown]) = _
  unfold tupleText
  have z : (if [(PyData.int (j : Int)).shown, (PyData.int u).shown, (PyData.list (rs.map rowD)).shown].length == 1 then ",)" else ")") = ")" := rfl
  rw [z]
  simp only [Str.join, cp_app, c_lp, c_rp, c_cm]
  rw [cp_dig (by omega) (by omega), cp_dig (by omega) (by omega), cp_rows h]
  simp
theorem key_inj {j k : Nat} {u v : Int} {rs ss : List Rq} (hj : j < 3) (u1 : 1 ≤ u) (u3 : u ≤ 3) (h1 : ∀ r ∈ rs, Sm r) (hk : k < 3) (v1 : 1 ≤ v) (v3 : v ≤ 3) (h2 : ∀ r ∈ ss, Sm r) :
    decide ((keyD j u rs).shown = (keyD k v ss).shown) = decide (j = k ∧ u = v ∧ rs = ss) := by
  refine decide_eq_decide.mpr ⟨fun e => ?_, fun ⟨e1, e2, e3⟩ => by rw [e1, e2, e3]⟩
  have e' := congrArg cp e
  rw [cp_key hj u1 u3 h1, cp_key hk v1 v3 h2] at e'
  simp only [List.cons.injEq, true_and] at e'
  obtain ⟨q1, q2, q3⟩ := e'
  exact ⟨by omega, by omega, body_inj h1 h2 q3⟩
theorem sv_kf (j : Nat) : Sv (svR (kf j)) := sv_svR _
/-- a line of the law -/
structure Inf where
  j : Nat
  a : Addr
  u : Int
  p : Addr
  rs : List Rq
structure Inf.Ok (f : Inf) : Prop where
  j3 : f.j < 3
  u1 : 1 ≤ f.u
  u3 : f.u ≤ 3
  ok : OkR f.rs
  l3 : f.rs.length ≤ 3
abbrev Inf.key (f : Inf) : Str := (keyD f.j f.u f.rs).shown
/-! ### == of two lines -/
section
variable {K : PySem.W.Frag} {C0 C1 C2 : Addr} {m : Mu} {F : Y → Mu → Prop}
theorem dec_sym {j k : Nat} {u v : Int} {rs ss : List Rq} : decide (k = j ∧ v = u ∧ ss = rs) = decide (j = k ∧ u = v ∧ rs = ss) :=
  decide_eq_decide.mpr ⟨fun ⟨a, b, c⟩ => ⟨a.symm, b.symm, c.symm⟩, fun ⟨a, b, c⟩ => ⟨a.symm, b.symm, c.symm⟩⟩
theorem eq_left {neg : Bool} {j : Nat} (hj : j < 3) {y z : Y} (h : xEqL1 K neg (fn3 C0 C1 C2 j) (d_eqO K C0 C1 C2 j) y z m F) : xEqL1 K neg C0 (d_eqO K C0 C1 C2 0) y z m F ∨ xEqL1 K neg C1 (d_eqO K C0 C1 C2 1) y z m F ∨ xEqL1 K neg C2 (d_eqO K C0 C1 C2 2) y z m F := by
  match j, hj, h with
  | 0, _, h => exact .inl h
  | 1, _, h => exact .inr (.inl h)
  | 2, _, h => exact .inr (.inr h)
theorem eq_lines (HI : ∀ j, j < 3 → ClsI K (fn3 C0 C1 C2 j)) (HF : ∀ j k, j < 3 → k < 3 → k ≤ j → PySem.W.notFirst K (fn3 C0 C1 C2 j) (.ref (fn3 C0 C1 C2 k)) = true)
    (HS : ∀ j k, j < k → k < 3 → (Value.ref (fn3 C0 C1 C2 j) != Value.ref (fn3 C0 C1 C2 k)) = true ∧ PySem.W.subIn K (.ref (fn3 C0 C1 C2 k)) (.ref (fn3 C0 C1 C2 j)) = some true)
    {neg : Bool} {j k : Nat} {a b p q : Addr} {u v : Int} {rs ss : List Rq} (hj : j < 3) (hk : k < 3) (A : At (fn3 C0 C1 C2 j) m a u p rs) (B : At (fn3 C0 C1 C2 k) m b v q ss) (h : F (.d (.bool (neg != decide (j = k ∧ u = v ∧ rs = ss)))) m) :
    xEqL1 K neg C0 (d_eqO K C0 C1 C2 0) (.l a) (.l b) m F ∨ xEqL1 K neg C1 (d_eqO K C0 C1 C2 1) (.l a) (.l b) m F ∨ xEqL1 K neg C2 (d_eqO K C0 C1 C2 2) (.l a) (.l b) m F ∨ xEqR1 K neg C1 (d_eqO K C0 C1 C2 1) (.l a) (.l b) m F ∨ xEqR1 K neg C2 (d_eqO K C0 C1 C2 2) (.l a) (.l b) m F := by
  obtain ⟨dx, ho⟩ := A.ob
  obtain ⟨dy, ho2⟩ := B.ob
  by_cases hkj : k ≤ j
  · have L : xEqL1 K neg (fn3 C0 C1 C2 j) (d_eqO K C0 C1 C2 j) (.l a) (.l b) m F := ⟨a, dx, _, _, rfl, ho, .ins ho2 (HI k hk), HF j k hj hk hkj, a, u, p, rs, .l b, rfl, A, .inr ⟨k, b, v, q, ss, rfl, hk, B, _, rfl, h⟩⟩
    rcases eq_left hj L with L | L | L
    · exact .inl L
    · exact .inr (.inl L)
    · exact .inr (.inr (.inl L))
  · have hjk : j < k := by omega
    have R : xEqR1 K neg (fn3 C0 C1 C2 k) (d_eqO K C0 C1 C2 k) (.l a) (.l b) m F := ⟨a, _, dx, _, b, dy, _, rfl, ho, rfl, ho2, (HS j k hjk hk).1, (HS j k hjk hk).2, b, v, q, ss, .l a, rfl, B, .inr ⟨j, a, u, p, rs, rfl, hj, A, _, rfl, by rw [dec_sym]; exact h⟩⟩
    match k, hk, hjk, R with
    | 1, _, _, R => exact .inr (.inr (.inr (.inl R)))
    | 2, _, _, R => exact .inr (.inr (.inr (.inr R)))
theorem eq_thing (HT : ∀ j, j < 3 → ∀ T ∈ tyS, PySem.W.notFirst K (fn3 C0 C1 C2 j) (.type T) = true ∧ PySem.W.kitOne K (.type T) (.ref (fn3 C0 C1 C2 j)) = some false)
    {neg : Bool} {j : Nat} {a p : Addr} {u : Int} {rs : List Rq} {z : Y} {T : String} (hj : j < 3) (A : At (fn3 C0 C1 C2 j) m a u p rs) (hz : TyO K m z (.type T)) (hT : T ∈ tyS) (h : F (.d (.bool neg)) m) :
    xEqL1 K neg C0 (d_eqO K C0 C1 C2 0) (.l a) z m F ∨ xEqL1 K neg C1 (d_eqO K C0 C1 C2 1) (.l a) z m F ∨ xEqL1 K neg C2 (d_eqO K C0 C1 C2 2) (.l a) z m F := by
  obtain ⟨dx, ho⟩ := A.ob
  obtain ⟨h1, h2⟩ := HT j hj T hT
  exact eq_left hj ⟨a, dx, _, _, rfl, ho, hz, h1, a, u, p, rs, z, rfl, A, .inl ⟨_, hz, h2, _, rfl, by cases neg <;> exact h⟩⟩
end
/-! ### repr -/
theorem rp_wr {j : Nat} (hj : j < 3) (u : Int) (n : Nat) : rpS (nmO j) u n = wrT j u n := by
  have e : Str.empty ++ nmO j = nm3 j ++ ("(" : Str) := by
    match j, hj with
    | 0, _ => decide +kernel
    | 1, _ => decide +kernel
    | 2, _ => decide +kernel
  unfold rpS wrT
  rw [e]
theorem fm_llen {α β : Type} {f : α → Option β} : ∀ {l : List α}, (∀ x ∈ l, ∃ y, f x = some y) → (l.filterMap f).length = l.length
  | [], _ => rfl
  | x :: l, h => by
    obtain ⟨y, hy⟩ := h x List.mem_cons_self
    rw [List.filterMap_cons, hy]
    exact congrArg Nat.succ (fm_llen fun z hz => h z (List.mem_cons_of_mem _ hz))
theorem wpairs_len (k : Int) (rs : List Rq) : (wPairs k rs).length = waitN rs := by
  have key : ∀ (rs : List Rq) (n : Nat), ((rs.zipIdx n).filterMap fun p => if p.1.held then none else some (p.1.rank * k, (p.2 : Int))).length = waitN rs := by
    intro rs
    induction rs with
    | nil => intro n; rfl
    | cons r rs ih =>
      intro n
      rw [List.zipIdx_cons, List.filterMap_cons]
      unfold waitN
      rw [List.filter_cons]
      cases h : r.held with
      | true =>
        simp only [h]
        exact ih (n + 1)
      | false =>
        simp only [h]
        exact congrArg Nat.succ (ih (n + 1))
  exact key rs 0
theorem wait_len (k : Int) (rs : List Rq) : (waitL (svR k) rs).length = waitN rs := by
  unfold waitL
  rw [fm_llen fun i hi => by
    have := (sv_svR k).lt rs i hi
    exact ⟨_, by rw [List.getElem?_eq_getElem this]; rfl⟩]
  unfold svR
  rw [List.length_map, srt_len, wpairs_len]
theorem alt3 {p : Nat → Prop} {j : Nat} (hj : j < 3) (g : p j) : p 0 ∨ p 1 ∨ p 2 := by
  match j, hj, g with
  | 0, _, g => exact .inl g
  | 1, _, g => exact .inr (.inl g)
  | 2, _, g => exact .inr (.inr g)
theorem repr_alt {C0 C1 C2 a p : Addr} {i j : Nat} {u : Int} {rs : List Rq} {r : Ro} {m : Mu} {F : Y → Mu → Prop} {P : XP} (hj : j < 3) (hr : r[i]? = some (some (.l a))) (A : At (fn3 C0 C1 C2 j) m a u p rs) (hl : rs.length ≤ 24) (u1 : 1 ≤ u) (u3 : u ≤ 3) (h : ∀ m', Mle m m' → F (.d (.str (wrT j u (waitN rs)))) m') :
    xCB (xReprO C0 (d_repr C0 (svR (kf 0)) (nmO 0))) (xCons (xVar i) xNil) r m F P ∨ xCB (xReprO C1 (d_repr C1 (svR (kf 1)) (nmO 1))) (xCons (xVar i) xNil) r m F P ∨ xCB (xReprO C2 (d_repr C2 (svR (kf 2)) (nmO 2))) (xCons (xVar i) xNil) r m F P := by
  obtain ⟨dx, ho⟩ := A.ob
  have hw : (waitL (svR (kf j)) rs).length ≤ 100 := Nat.le_trans (by rw [wait_len]; exact List.length_filter_le _ _) (by omega)
  have g : xCB (xReprO (fn3 C0 C1 C2 j) (d_repr (fn3 C0 C1 C2 j) (svR (kf j)) (nmO j))) (xCons (xVar i) xNil) r m F P := ⟨_, hr, a, dx, _, rfl, ho, a, u, p, rs, rfl, A, by omega, ⟨u1, u3⟩, hw, fun m' h' => ⟨_, rfl, by rw [rp_wr hj, wait_len]; exact h m' h'⟩⟩
  exact alt3 (p := fun j => xCB (xReprO (fn3 C0 C1 C2 j) (d_repr (fn3 C0 C1 C2 j) (svR (kf j)) (nmO j))) (xCons (xVar i) xNil) r m F P) hj g
/-! ### one lap: two lines are made, and the law's own list -/
def KeptZ (pn : Addr) (M0 M : Mu) : Prop := ∀ x o, x ≠ pn → M0 x = some o → M x = some o
structure Lap (C : Addr) (M0 M : Mu) (pn a b : Addr) (u : Int) (p s q : Addr) (bs : List Addr) (rs ss ts : List Rq) : Prop where
  kept : KeptZ pn M0 M
  pen : ∃ l, PenL l ∧ M pn = some (.lst l)
  pn0 : ∃ l, M0 pn = some (.lst l)
  A : At C M a u p rs
  B : At C M b u s ss
  Q : LAt M q bs ts
  np : M0 p = none
  ns : M0 s = none
  nq : M0 q = none
  nb : ∀ x ∈ bs, M0 x = none ∧ x ≠ p ∧ x ≠ s
  ps : p ≠ s
  pq : p ≠ q
  sq : s ≠ q
section
variable {C : Addr} {M0 M M' : Mu} {pn a b : Addr} {u : Int} {p s q : Addr} {bs bs' : List Addr} {rs ss ts rs' ss' ts' : List Rq}
theorem Lap.pns (S : Lap C M0 M pn a b u p s q bs rs ss ts) {x : Addr} (h : M0 x = none) : x ≠ pn := fun e => by
  obtain ⟨l, hl⟩ := S.pn0
  rw [e, hl] at h; cases h
theorem Lap.le (S : Lap C M0 M pn a b u p s q bs rs ss ts) (l : Mle M M') : Lap C M0 M' pn a b u p s q bs rs ss ts :=
  { S with kept := fun x o hx e => l _ _ (S.kept x o hx e), pen := S.pen.imp fun _ h => ⟨h.1, l _ _ h.2⟩, A := S.A.le l, B := S.B.le l, Q := S.Q.le l }
theorem LAt.fr (h : LAt M q bs ts) (hq : ∀ o, M q = some o → M' q = some o) (hb : ∀ x ∈ bs, ∀ o, M x = some o → M' x = some o) : LAt M' q bs ts := ⟨hq _ h.ls, rows_le hb h.rows, h.nd⟩
theorem Lap.wr (S : Lap C M0 M pn a b u p s q bs rs ss ts) {z : Addr} {l : List Y} {o : MO} (hz : M z = some (.lst l)) (z0 : z = pn ∨ M0 z = none) (l2 : Mle (mu M z o) M') : KeptZ pn M0 M' ∧ ∀ x o', x ≠ z → M x = some o' → M' x = some o' := by
  have fr : ∀ x o', x ≠ z → M x = some o' → M' x = some o' := fun x o' hx e => l2 _ _ (by rw [mu_ne hx]; exact e)
  refine ⟨fun x o' hx e => fr x o' (fun q => ?_) (S.kept x o' hx e), fr⟩
  subst q
  rcases z0 with z0 | z0
  · exact hx z0
  · rw [z0] at e; cases e
theorem Lap.ob (S : Lap C M0 M pn a b u p s q bs rs ss ts) {z : Addr} {l : List Y} (hz : M z = some (.lst l)) : a ≠ z ∧ b ≠ z := by
  obtain ⟨dx, h1⟩ := S.A.ob
  obtain ⟨dy, h2⟩ := S.B.ob
  exact ⟨fun e => by rw [e, hz] at h1; (cases h1), fun e => by rw [e, hz] at h2; (cases h2)⟩
theorem Lap.draw (S : Lap C M0 M pn a b u p s q bs rs ss ts) {l' : List Y} (hl : PenL l') (h : Mle (mu M pn (.lst l')) M') : Lap C M0 M' pn a b u p s q bs rs ss ts := by
  obtain ⟨l, _, hp⟩ := S.pen
  obtain ⟨k, fr⟩ := S.wr hp (.inl rfl) h
  obtain ⟨n1, n2⟩ := S.ob hp
  exact { S with
    kept := k
    pen := ⟨l', hl, h _ _ mu_same⟩
    A := ⟨S.A.ob.imp fun _ e => fr _ _ n1 e, fr _ _ (S.pns S.np) S.A.ls⟩
    B := ⟨S.B.ob.imp fun _ e => fr _ _ n2 e, fr _ _ (S.pns S.ns) S.B.ls⟩
    Q := S.Q.fr (fun o e => fr _ _ (S.pns S.nq) e) fun x hx o e => fr _ _ (S.pns (S.nb x hx).1) e }
theorem Lap.one (S : Lap C M0 M pn a b u p s q bs rs ss ts) (h : Mle (mu M p (.lst (rs'.map rqY))) M') : Lap C M0 M' pn a b u p s q bs rs' ss ts := by
  obtain ⟨k, fr⟩ := S.wr S.A.ls (.inr S.np) h
  obtain ⟨n1, n2⟩ := S.ob S.A.ls
  exact { S with
    kept := k
    pen := S.pen.imp fun _ e => ⟨e.1, fr _ _ (S.pns S.np).symm e.2⟩
    A := ⟨S.A.ob.imp fun _ e => fr _ _ n1 e, h _ _ mu_same⟩
    B := ⟨S.B.ob.imp fun _ e => fr _ _ n2 e, fr _ _ S.ps.symm S.B.ls⟩
    Q := S.Q.fr (fun o e => fr _ _ S.pq.symm e) fun x hx o e => fr _ _ (S.nb x hx).2.1 e }
theorem Lap.two (S : Lap C M0 M pn a b u p s q bs rs ss ts) (h : Mle (mu M s (.lst (ss'.map rqY))) M') : Lap C M0 M' pn a b u p s q bs rs ss' ts := by
  obtain ⟨k, fr⟩ := S.wr S.B.ls (.inr S.ns) h
  obtain ⟨n1, n2⟩ := S.ob S.B.ls
  exact { S with
    kept := k
    pen := S.pen.imp fun _ e => ⟨e.1, fr _ _ (S.pns S.ns).symm e.2⟩
    A := ⟨S.A.ob.imp fun _ e => fr _ _ n1 e, fr _ _ S.ps S.A.ls⟩
    B := ⟨S.B.ob.imp fun _ e => fr _ _ n2 e, h _ _ mu_same⟩
    Q := S.Q.fr (fun o e => fr _ _ S.sq.symm e) fun x hx o e => fr _ _ (S.nb x hx).2.2 e }
theorem Lap.req (S : Lap C M0 M pn a b u p s q bs rs ss ts) (hQ : LAt M' q bs' ts') (fr : Fr (fun x => x = q) M M') (hb : ∀ x ∈ bs', x ∈ bs ∨ M x = none) : Lap C M0 M' pn a b u p s q bs' rs ss ts' := by
  obtain ⟨n1, n2⟩ := S.ob S.Q.ls
  obtain ⟨l, hl, hp⟩ := S.pen
  exact { S with
    kept := fun x o hx e => fr _ _ (fun z => by rw [z, S.nq] at e; cases e) (S.kept x o hx e)
    pen := ⟨l, hl, fr _ _ (S.pns S.nq).symm hp⟩
    A := ⟨S.A.ob.imp fun _ e => fr _ _ n1 e, fr _ _ S.pq S.A.ls⟩
    B := ⟨S.B.ob.imp fun _ e => fr _ _ n2 e, fr _ _ S.sq S.B.ls⟩
    Q := hQ
    nb := fun x hx => by
      rcases hb x hx with h | h
      · exact S.nb x h
      · refine ⟨?_, fun e => by rw [e, S.A.ls] at h; (cases h), fun e => by rw [e, S.B.ls] at h; (cases h)⟩
        cases e : M0 x with
        | none => rfl
        | some o =>
          by_cases hxp : x = pn
          · rw [hxp, hp] at h; cases h
          · rw [S.kept x o hxp e] at h; cases h }
end
/-- the lines so far -/
structure Lns (C0 C1 C2 : Addr) (M : Mu) (pn : Addr) (fs : List Inf) : Prop where
  ok : ∀ f ∈ fs, f.Ok
  at_ : ∀ f ∈ fs, At (fn3 C0 C1 C2 f.j) M f.a f.u f.p f.rs ∧ f.p ≠ pn
theorem Lns.le {C0 C1 C2 pn : Addr} {M M' : Mu} {fs : List Inf} (S : Lns C0 C1 C2 M pn fs) (l : Mle M M') : Lns C0 C1 C2 M' pn fs := ⟨S.ok, fun f hf => ⟨(S.at_ f hf).1.le l, (S.at_ f hf).2⟩⟩
theorem Lns.kept {C0 C1 C2 pn : Addr} {M M' : Mu} {fs : List Inf} (S : Lns C0 C1 C2 M pn fs) (hp : ∃ l, M pn = some (.lst l)) (l : KeptZ pn M M') : Lns C0 C1 C2 M' pn fs := ⟨S.ok, fun f hf => by
  obtain ⟨A, n⟩ := S.at_ f hf
  obtain ⟨dx, ho⟩ := A.ob
  obtain ⟨l0, h0⟩ := hp
  exact ⟨⟨⟨dx, l _ _ (fun e => by rw [e, h0] at ho; cases ho) ho⟩, l _ _ n A.ls⟩, n⟩⟩
theorem ask_one {u : Int} (u1 : 1 ≤ u) : askF u [] 5 9 = [⟨9, 5, true⟩] := by
  unfold askF
  have : decide (0 < u - (heldN [] : Int)) = true := decide_eq_true (by show 0 < u - ((0 : Nat) : Int); omega)
  rw [this]; rfl
theorem rel_one (k : Int) : relF (svR k) [⟨9, 5, true⟩] 5 = some ([], .none) := by
  have e : svR k [] = [] := List.eq_nil_of_length_eq_zero (Nat.le_zero.mp ((sv_svR k).len []))
  have o : ownL [⟨9, 5, true⟩] 5 = [0] := by decide +kernel
  unfold relF lastH
  rw [o]
  show some (endF (svR k) []) = _
  unfold endF
  rw [e]
theorem ask_eq {u i k : Int} {rs : List Rq} : rs ++ [⟨k, i, decide ((heldN rs : Int) < u)⟩] = askF u rs i k := by
  unfold askF
  rw [show decide ((heldN rs : Int) < u) = decide (0 < u - (heldN rs : Int)) from decide_eq_decide.mpr ⟨fun h => by omega, fun h => by omega⟩]
theorem wr_fin : ∀ j : Fin 3, ∀ u : Fin 3, ∀ n : Fin 4, (reprText (wrT j.val ((u.val : Int) + 1) n.val)).length ≤ 100 := by decide +kernel
theorem wr_len {j : Nat} {u : Int} {n : Nat} (hj : j < 3) (u1 : 1 ≤ u) (u3 : u ≤ 3) (hn : n ≤ 3) : (reprText (wrT j u n)).length ≤ 100 := by
  obtain ⟨v, rfl⟩ : ∃ v : Nat, u = (v : Int) + 1 := ⟨(u - 1).toNat, by omega⟩
  exact wr_fin ⟨j, hj⟩ ⟨v, by omega⟩ ⟨n, by omega⟩
theorem ok_wr {j : Nat} {u : Int} {n : Nat} (hj : j < 3) (u1 : 1 ≤ u) (u3 : u ≤ 3) (hn : n ≤ 3) : okD (.list [.str (wrT j u n), .str (wrT j u n)]) := by
  have := wr_len hj u1 u3 hn
  refine ok4_ok (ok4_lst (n := 1) (c := 2000) fun d hd => ?_) (by decide) (by show 3 + 2 * 2002 ≤ 10000000; decide)
  simp only [List.mem_cons, List.not_mem_nil, or_false] at hd
  rcases hd with rfl | rfl <;> exact ⟨by simp [PyData.showable], by simp [PyData.hasDict], by simp [PyData.depth], by simp only [cst]; omega⟩
theorem ok_bools (a b : Bool) : okD (.list [.bool a, .bool b]) := ok4_ok (ok4_lst (n := 1) (c := 2000) fun d hd => by
  simp only [List.mem_cons, List.not_mem_nil, or_false] at hd
  rcases hd with rfl | rfl <;> exact ⟨by simp [PyData.showable], by simp [PyData.hasDict], by simp [PyData.depth], by simp only [cst]; omega⟩) (by decide) (by show 3 + 2 * 2002 ≤ 10000000; decide)
theorem fm_rep (t : PyData) : (List.replicate (2 : Int).toNat [t]).flatten = [t, t] := rfl
theorem two_b {m : Mu} {e e' : Bool} (h : e' = e) : DeepY m (.d (.list [.bool (false != e'), .bool (true != e')])) (.list [.bool e, .bool (!e)]) := by subst h; cases e' <;> exact .d _
theorem two_c {m : Mu} {e e' : Bool} (h : e' = e) : DeepY m (.d (.list [.bool e', .bool (!e')])) (.list [.bool e, .bool (!e)]) := by subst h; exact .d _
theorem all3 {p : Nat → Prop} {j : Nat} (h0 : p 0) (h1 : p 1) (h2 : p 2) (hj : j < 3) : p j := by
  match j, hj with
  | 0, _ => exact h0
  | 1, _ => exact h1
  | 2, _ => exact h2
theorem all33 {p : Nat → Nat → Prop} {i k : Nat} (h00 : p 0 0) (h01 : p 0 1) (h02 : p 0 2) (h10 : p 1 0) (h11 : p 1 1) (h12 : p 1 2) (h20 : p 2 0) (h21 : p 2 1) (h22 : p 2 2) (hi : i < 3) (hk : k < 3) : p i k :=
  all3 (p := fun i => p i k) (all3 h00 h01 h02 hk) (all3 h10 h11 h12 hk) (all3 h20 h21 h22 hk) hi
theorem nf_me {K : PySem.W.Frag} {C : Addr} : PySem.W.notFirst K C (.ref C) = true := by simp [PySem.W.notFirst]
theorem nf_no {K : PySem.W.Frag} {C D : Addr} (h : PySem.W.mroIn K D (.ref C) = some false) : PySem.W.notFirst K C (.ref D) = true := by
  have : PySem.W.subIn K (.ref D) (.ref C) = some false := h
  simp [PySem.W.notFirst, this]
theorem nf_ty {K : PySem.W.Frag} {C : Addr} {T : String} {l : List Value} (h : fastBuiltinMro T = some l) (h2 : l.contains (.ref C) = false) : PySem.W.notFirst K C (.type T) = true := by
  have : PySem.W.subIn K (.type T) (.ref C) = some false := by
    show (fastBuiltinMro T).map (fun l => l.contains (Value.ref C)) = some false
    rw [h]
    show some (l.contains (Value.ref C)) = some false
    rw [h2]
  simp [PySem.W.notFirst, this]
theorem ty_all {K : PySem.W.Frag} {C : Addr} (h1 : PySem.W.kitOne K (.type "NoneType") (.ref C) = some false) (h2 : PySem.W.kitOne K (.type "bool") (.ref C) = some false) (h3 : PySem.W.kitOne K (.type "int") (.ref C) = some false) (h4 : PySem.W.kitOne K (.type "str") (.ref C) = some false)
    (h5 : PySem.W.kitOne K (.type "tuple") (.ref C) = some false) (h6 : PySem.W.kitOne K (.type "list") (.ref C) = some false) : ∀ T ∈ tyS, PySem.W.notFirst K C (.type T) = true ∧ PySem.W.kitOne K (.type T) (.ref C) = some false := by
  intro T hT
  simp only [tyS, List.mem_cons, List.not_mem_nil, or_false] at hT
  rcases hT with rfl | rfl | rfl | rfl | rfl | rfl
  · exact ⟨nf_ty (l := [.type "NoneType", .type "object"]) (by decide +kernel) rfl, h1⟩
  · exact ⟨nf_ty (l := [.type "bool", .type "int", .type "object"]) (by decide +kernel) rfl, h2⟩
  · exact ⟨nf_ty (l := [.type "int", .type "object"]) (by decide +kernel) rfl, h3⟩
  · exact ⟨nf_ty (l := [.type "str", .type "object"]) (by decide +kernel) rfl, h4⟩
  · exact ⟨nf_ty (l := [.type "tuple", .type "object"]) (by decide +kernel) rfl, h5⟩
  · exact ⟨nf_ty (l := [.type "list", .type "object"]) (by decide +kernel) rfl, h6⟩
theorem ok_law {f : Addr} {fd : FuncData} (F : Fun K "law" "law" s_law f fd) (T : TxtS K mg) {C0 C1 C2 E0 : Addr} {f1 f2 f3 f4 f5 f6 f7 f8 f9 fa fb fc fe ff fg fh fi fj fk fl fm : Addr} {fd1 fd2 fd3 fd4 fd5 fd6 fd7 fd8 fd9 fda fdb fdc fde fdf fdg fdh fdi fdj fdk fdl fdm : FuncData} (M0_request : MF P w K mg base C0 "request" 8 f1 fd1 ["self", "process", "rank"] (d_request C0)) (M1_request : MF P w K mg base C1 "request" 8 f2 fd2 ["self", "process", "rank"] (d_request C1)) (M2_request : MF P w K mg base C2 "request" 8 f3 fd3 ["self", "process", "rank"] (d_request C2)) (M0_release : MF P w K mg base C0 "release" 6 f4 fd4 ["self", "process"] (d_release C0 E0 (svR (kf 0)))) (M1_release : MF P w K mg base C1 "release" 6 f5 fd5 ["self", "process"] (d_release C1 E0 (svR (kf 1)))) (M2_release : MF P w K mg base C2 "release" 6 f6 fd6 ["self", "process"] (d_release C2 E0 (svR (kf 2)))) (R0_repr : MF P w K mg base C0 "__repr__" 8 f7 fd7 ["self"] (d_repr C0 (svR (kf 0)) (nmO 0))) (R1_repr : MF P w K mg base C1 "__repr__" 8 f8 fd8 ["self"] (d_repr C1 (svR (kf 1)) (nmO 1))) (R2_repr : MF P w K mg base C2 "__repr__" 8 f9 fd9 ["self"] (d_repr C2 (svR (kf 2)) (nmO 2))) (M0_eq : MF P w K mg base C0 "__eq__" 2 fa fda ["self", "other"] (d_eqO K C0 C1 C2 0)) (M1_eq : MF P w K mg base C1 "__eq__" 2 fb fdb ["self", "other"] (d_eqO K C0 C1 C2 1)) (M2_eq : MF P w K mg base C2 "__eq__" 2 fc fdc ["self", "other"] (d_eqO K C0 C1 C2 2)) (Q_M0 : EqC K C0) (Q_M1 : EqC K C1) (Q_M2 : EqC K C2) (HI : ∀ j, j < 3 → ClsI K (fn3 C0 C1 C2 j)) (HF : ∀ j k, j < 3 → k < 3 → k ≤ j → PySem.W.notFirst K (fn3 C0 C1 C2 j) (.ref (fn3 C0 C1 C2 k)) = true) (HS : ∀ j k, j < k → k < 3 → (Value.ref (fn3 C0 C1 C2 j) != Value.ref (fn3 C0 C1 C2 k)) = true ∧ PySem.W.subIn K (.ref (fn3 C0 C1 C2 k)) (.ref (fn3 C0 C1 C2 j)) = some true) (HT : ∀ j, j < 3 → ∀ T ∈ tyS, PySem.W.notFirst K (fn3 C0 C1 C2 j) (.type T) = true ∧ PySem.W.kitOne K (.type T) (.ref (fn3 C0 C1 C2 j)) = some false) (G_law_cell_at : GF P w K mg base "_law_cell_at" 1 fe fde ["_law_script", "_law_k"] d_law_cell_at) (G_law_pen : GF P w K mg base "_law_pen" 1 ff fdf ["_law_cell"] d_law_pen) (G_law_draw : GF P w K mg base "_law_draw" 1 fg fdg ["_law_pen_here", "_law_many"] d_law_draw) (G_law_same : GF P w K mg base "_law_same" 1 fh fdh ["_law_actual", "_law_expected"] d_law_same) (G_law_made : GF P w K mg base "_law_made" 5 fi fdi ["_law_place", "_law_units"] (d_law_made C0 C1 C2)) (G_law_request : GF P w K mg base "_law_request" 1 fj fdj ["_law_requests", "_law_units", "_law_process", "_law_rank"] d_law_request) (G_law_key : GF P w K mg base "_law_key" 1 fk fdk ["_law_place", "_law_units", "_law_requests"] d_law_key) (G_law_written : GF P w K mg base "_law_written" 1 fl fdl ["_law_place", "_law_units", "_law_requests"] d_law_written) (G_law_is_kind : GF P w K mg base "_law_is_kind" 2 fm fdm ["_law_place", "_law_line"] (d_law_is_kind C0 C1 C2)) : FnD P w K mg base 12 f fd ["_law_script"] (dLaw) := by
  refine Dl.Fun.dok F sc_law _ (fun cdv A outer s H E B hp =>
      (dss_cons (ds_for hp rfl (di_seq (de_op opd_add (de_lst (da_cons (de_gf G_law_cell_at B.hr B.gd B.tk rfl (da_cons (de_var (pv 0)) (da_cons (de_int) da_nil))) da_nil)) (de_sl sld_L (de_var (pv 0)) (do_some (de_int)) (do_some (de_int))))) (dg_name (i := 1) sc_law.nd rfl (by first | exact Or.inl rfl | exact Or.inr rfl))
      (dss_cons (ds_par3 (i := 2) (j := 3) (l := 4) rfl sc_law.nd rfl rfl rfl (by decide) (by decide) (by decide) rfl rfl rfl (da_cons (de_gf G_law_pen B.hr B.gd B.tk rfl (da_cons (de_var (pv 1)) da_nil)) (da_cons (de_lstM da_nil) (da_cons (de_lst da_nil) da_nil))) rfl)
      (dss_cons (ds_for hp rfl (di_range1 rfl T.b_range (da_cons (de_int) da_nil)) (dg_name (i := 5) sc_law.nd rfl (by first | exact Or.inl rfl | exact Or.inr rfl))
      (dss_cons (ds_par3 (i := 6) (j := 7) (l := 8) rfl sc_law.nd rfl rfl rfl (by decide) (by decide) (by decide) rfl rfl rfl (da_cons (de_gf G_law_draw B.hr B.gd B.tk rfl (da_cons (de_var (pv 2)) (da_cons (de_int) da_nil))) (da_cons (de_op opd_add (de_int) (de_gf G_law_draw B.hr B.gd B.tk rfl (da_cons (de_var (pv 2)) (da_cons (de_int) da_nil)))) (da_cons (de_lstM da_nil) da_nil))) rfl)
      (dss_cons (ds_par (i := 9) (j := 10) rfl sc_law.nd rfl rfl (by decide) rfl rfl (da_cons (de_gf G_law_made B.hr B.gd B.tk rfl (da_cons (de_var (pv 6)) (da_cons (de_var (pv 7)) da_nil))) (da_cons (de_gf G_law_made B.hr B.gd B.tk rfl (da_cons (de_var (pv 6)) (da_cons (de_var (pv 7)) da_nil))) da_nil)) rfl)
      (dss_cons (ds_for hp rfl (di_range1 rfl T.b_range (da_cons (de_gf G_law_draw B.hr B.gd B.tk rfl (da_cons (de_var (pv 2)) (da_cons (de_int) da_nil))) da_nil)) (dg_name (i := 11) sc_law.nd rfl (by first | exact Or.inl rfl | exact Or.inr rfl))
      (dss_cons (ds_expr (de_alt (de_mf (de_var (pv 10)) M0_request B.hr B.gd B.tk (da_cons (de_int) (da_cons (de_int) da_nil))) (de_alt (de_mf (de_var (pv 10)) M1_request B.hr B.gd B.tk (da_cons (de_int) (da_cons (de_int) da_nil))) (de_mf (de_var (pv 10)) M2_request B.hr B.gd B.tk (da_cons (de_int) (da_cons (de_int) da_nil))))))
      (dss_one (ds_expr (de_alt (de_mf (de_var (pv 10)) M0_release B.hr B.gd B.tk (da_cons (de_int) da_nil)) (de_alt (de_mf (de_var (pv 10)) M1_release B.hr B.gd B.tk (da_cons (de_int) da_nil)) (de_mf (de_var (pv 10)) M2_release B.hr B.gd B.tk (da_cons (de_int) da_nil))))))))
      (dss_cons (ds_for hp rfl (di_range1 rfl T.b_range (da_cons (de_gf G_law_draw B.hr B.gd B.tk rfl (da_cons (de_var (pv 2)) (da_cons (de_int) da_nil))) da_nil)) (dg_name (i := 12) sc_law.nd rfl (by first | exact Or.inl rfl | exact Or.inr rfl))
      (dss_cons (ds_par (i := 13) (j := 14) rfl sc_law.nd rfl rfl (by decide) rfl rfl (da_cons (de_gf G_law_draw B.hr B.gd B.tk rfl (da_cons (de_var (pv 2)) (da_cons (de_int) da_nil))) (da_cons (de_gf G_law_draw B.hr B.gd B.tk rfl (da_cons (de_var (pv 2)) (da_cons (de_int) da_nil))) da_nil)) rfl)
      (dss_cons (ds_expr (de_gf G_law_request B.hr B.gd B.tk rfl (da_cons (de_var (pv 8)) (da_cons (de_var (pv 7)) (da_cons (de_var (pv 13)) (da_cons (de_var (pv 14)) da_nil))))))
      (dss_cons (ds_expr (de_alt (de_mf (de_var (pv 9)) M0_request B.hr B.gd B.tk (da_cons (de_var (pv 13)) (da_cons (de_var (pv 14)) da_nil))) (de_alt (de_mf (de_var (pv 9)) M1_request B.hr B.gd B.tk (da_cons (de_var (pv 13)) (da_cons (de_var (pv 14)) da_nil))) (de_mf (de_var (pv 9)) M2_request B.hr B.gd B.tk (da_cons (de_var (pv 13)) (da_cons (de_var (pv 14)) da_nil))))))
      (dss_one (ds_expr (de_alt (de_mf (de_var (pv 10)) M0_request B.hr B.gd B.tk (da_cons (de_var (pv 13)) (da_cons (de_var (pv 14)) da_nil))) (de_alt (de_mf (de_var (pv 10)) M1_request B.hr B.gd B.tk (da_cons (de_var (pv 13)) (da_cons (de_var (pv 14)) da_nil))) (de_mf (de_var (pv 10)) M2_request B.hr B.gd B.tk (da_cons (de_var (pv 13)) (da_cons (de_var (pv 14)) da_nil)))))))))))
      (dss_cons (ds_set (i := 3) sc_law.nd rfl (by first | exact Or.inl rfl | exact Or.inr rfl) (de_op opd_addM (de_var (pv 3)) (de_lstM (da_cons (de_var (pv 9)) (da_cons (de_var (pv 10)) da_nil)))))
      (dss_cons (ds_set (i := 4) sc_law.nd rfl (by first | exact Or.inl rfl | exact Or.inr rfl) (de_op opd_add (de_var (pv 4)) (de_op opd_repL (de_lst (da_cons (de_gf G_law_key B.hr B.gd B.tk rfl (da_cons (de_var (pv 6)) (da_cons (de_var (pv 7)) (da_cons (de_var (pv 8)) da_nil)))) da_nil)) (de_int))))
      (dss_cons (ds_set (i := 15) sc_law.nd rfl (by first | exact Or.inl rfl | exact Or.inr rfl) (de_gf G_law_written B.hr B.gd B.tk rfl (da_cons (de_var (pv 6)) (da_cons (de_var (pv 7)) (da_cons (de_var (pv 8)) da_nil)))))
      (dss_one (ds_if (DW.dt (dw_or (dt_not (dt_tru (de_gf G_law_same B.hr B.gd B.tk rfl (da_cons (de_lst (da_cons (de_alt (de_cb (cd_reprO R0_repr B.hr B.gd) rfl T.b_repr boot_repr (da_cons (de_var (pv 9)) da_nil)) (de_alt (de_cb (cd_reprO R1_repr B.hr B.gd) rfl T.b_repr boot_repr (da_cons (de_var (pv 9)) da_nil)) (de_cb (cd_reprO R2_repr B.hr B.gd) rfl T.b_repr boot_repr (da_cons (de_var (pv 9)) da_nil)))) (da_cons (de_alt (de_cb (cd_reprO R0_repr B.hr B.gd) rfl T.b_repr boot_repr (da_cons (de_var (pv 10)) da_nil)) (de_alt (de_cb (cd_reprO R1_repr B.hr B.gd) rfl T.b_repr boot_repr (da_cons (de_var (pv 10)) da_nil)) (de_cb (cd_reprO R2_repr B.hr B.gd) rfl T.b_repr boot_repr (da_cons (de_var (pv 10)) da_nil)))) da_nil))) (da_cons (de_lst (da_cons (de_var (pv 15)) (da_cons (de_var (pv 15)) da_nil))) da_nil))))) (dw_or1 (dt_not (dt_tru (de_gf G_law_is_kind B.hr B.gd B.tk rfl (da_cons (de_var (pv 6)) (da_cons (de_var (pv 9)) da_nil))))))))
      (dss_one (ds_ret (de_bl)))
      dss_nil))))))))))
      (dss_one (ds_for hp rfl (di_enum rfl T.b_enumerate (da_cons (de_var (pv 3)) da_nil)) (dg_tup (n := 2) rfl (dgs_cons (dg_name (i := 16) sc_law.nd rfl (by first | exact Or.inl rfl | exact Or.inr rfl)) (dgs_cons (dg_name (i := 17) sc_law.nd rfl (by first | exact Or.inl rfl | exact Or.inr rfl)) dgs_nil)))
      (dss_cons (ds_for hp rfl (di_enum rfl T.b_enumerate (da_cons (de_var (pv 3)) da_nil)) (dg_tup (n := 2) rfl (dgs_cons (dg_name (i := 18) sc_law.nd rfl (by first | exact Or.inl rfl | exact Or.inr rfl)) (dgs_cons (dg_name (i := 12) sc_law.nd rfl (by first | exact Or.inl rfl | exact Or.inr rfl)) dgs_nil)))
      (dss_cons (ds_set (i := 19) sc_law.nd rfl (by first | exact Or.inl rfl | exact Or.inr rfl) (de_cmp (opd_eq (Dl.Room.u64 B.hr)) (de_ix (de_var (pv 4)) (de_var (pv 16)) (by intro _ _; rfl)) (de_ix (de_var (pv 4)) (de_var (pv 18)) (by intro _ _; rfl)) (nomark _)))
      (dss_one (ds_if (dt_not (dt_tru (de_gf G_law_same B.hr B.gd B.tk rfl (da_cons (de_lst (da_cons (de_cmp (OpD.or (keqL K false M0_eq Q_M0 B.hr B.gd) (OpD.or (keqL K false M1_eq Q_M1 B.hr B.gd) (OpD.or (keqL K false M2_eq Q_M2 B.hr B.gd) (OpD.or (keqR K false M1_eq Q_M1 B.hr B.gd) (keqR K false M2_eq Q_M2 B.hr B.gd))))) (de_var (pv 17)) (de_var (pv 12)) (nomark _)) (da_cons (de_cmp (OpD.or (keqL K true M0_eq Q_M0 B.hr B.gd) (OpD.or (keqL K true M1_eq Q_M1 B.hr B.gd) (OpD.or (keqL K true M2_eq Q_M2 B.hr B.gd) (OpD.or (keqR K true M1_eq Q_M1 B.hr B.gd) (keqR K true M2_eq Q_M2 B.hr B.gd))))) (de_var (pv 17)) (de_var (pv 12)) (nomark _)) da_nil))) (da_cons (de_lst (da_cons (de_var (pv 19)) (da_cons (de_not (de_var (pv 19))) da_nil))) da_nil)))))
      (dss_one (ds_ret (de_bl)))
      dss_nil))))
      (dss_one (ds_for hp rfl (di_seq (de_lstM (da_cons (de_non) (da_cons (de_int) (da_cons (de_alt (de_cb (cd_reprO R0_repr B.hr B.gd) rfl T.b_repr boot_repr (da_cons (de_var (pv 17)) da_nil)) (de_alt (de_cb (cd_reprO R1_repr B.hr B.gd) rfl T.b_repr boot_repr (da_cons (de_var (pv 17)) da_nil)) (de_cb (cd_reprO R2_repr B.hr B.gd) rfl T.b_repr boot_repr (da_cons (de_var (pv 17)) da_nil)))) (da_cons (de_tup da_nil) (da_cons (de_lstM (da_cons (de_var (pv 17)) da_nil)) (da_cons (de_bl) da_nil)))))))) (dg_name (i := 20) sc_law.nd rfl (by first | exact Or.inl rfl | exact Or.inr rfl))
      (dss_one (ds_if (dt_not (dt_tru (de_gf G_law_same B.hr B.gd B.tk rfl (da_cons (de_lst (da_cons (de_cmp (OpD.or (keqL K false M0_eq Q_M0 B.hr B.gd) (OpD.or (keqL K false M1_eq Q_M1 B.hr B.gd) (keqL K false M2_eq Q_M2 B.hr B.gd))) (de_var (pv 17)) (de_var (pv 20)) (nomark _)) (da_cons (de_cmp (OpD.or (keqL K true M0_eq Q_M0 B.hr B.gd) (OpD.or (keqL K true M1_eq Q_M1 B.hr B.gd) (keqL K true M2_eq Q_M2 B.hr B.gd))) (de_var (pv 17)) (de_var (pv 20)) (nomark _)) da_nil))) (da_cons (de_lst (da_cons (de_bl) (da_cons (de_bl) da_nil))) da_nil)))))
      (dss_one (ds_ret (de_bl)))
      dss_nil))))))))))
      (dss_one (ds_ret (de_bl))))) (fun ys m F P h => ?_)
  obtain ⟨ns, rfl, hlen, h⟩ := h
  refine ⟨rfl, _, rfl, ns, 0, rfl, fun c0 => ⟨len1 _, [_], rfl, _, rfl, 1, rfl, 3, rfl, (ns.map PyData.int).map Y.d, (cutD ns (some 1) (some 3)).map PyData.int, .inr (.inr ⟨_, rfl, rfl⟩), by rw [cut_map, cut_map], ?_⟩⟩
  refine ⟨_, _, (c0 :: cutD ns (some 1) (some 3)).map PyData.int, rfl, rfl, ?_, rfl, _, rfl, ?_⟩
  · have z : (cutD ns (some 1) (some 3)).length ≤ ns.length := by
      unfold cutD
      rw [List.length_take, List.length_drop]
      omega
    simp only [List.length_map, List.length_cons, List.length_nil]
    omega
  generalize c0 :: cutD ns (some 1) (some 3) = cells
  refine ⟨fun _ r M => ∃ o1 o2 o3 o4 o5 o6 o7 o8 o9 o10 o11 o12 o13 o14 o15 o16 o17 o18 o19 o20, r = [some (.r (ns.map PyData.int)), o1, o2, o3, o4, o5, o6, o7, o8, o9, o10, o11, o12, o13, o14, o15, o16, o17, o18, o19, o20], ⟨_, _, _, _, _, _, _, _, _, _, _, _, _, _, _, _, _, _, _, _, rfl⟩, ?_⟩
  rintro jc _ m1 hjc ⟨o1, o2, o3, o4, o5, o6, o7, o8, o9, o10, o11, o12, o13, o14, o15, o16, o17, o18, o19, o20, rfl⟩
  refine ⟨fun _ e => (nomatch e), fun hlt => ?_, fun _ => h m1⟩
  obtain ⟨c, hc⟩ : ∃ c, ((cells.map PyData.int).map Y.d)[jc]? = some (.d (.int c)) := by
    rw [List.getElem?_map, List.getElem?_map]
    have hj' : jc < cells.length := by
      have hlt' : jc < ((cells.map PyData.int).map Y.d).length := hlt
      rwa [List.length_map, List.length_map] at hlt'
    rw [List.getElem?_eq_getElem hj']
    exact ⟨_, rfl⟩
  refine ⟨_, hc, _, rfl, c, rfl, fun pn l1 m2 npn hl1 hm2 => ⟨len0, fun z0 nz0 => ⟨len0, [], rfl, _, _, _, rfl, ?_⟩⟩⟩
  have hp2 : m2 pn = some (.lst l1) := hm2 _ _ mu_same
  have nz : pn ≠ z0 := fun e => by rw [e, nz0] at hp2; cases hp2
  refine ⟨6, rfl, by decide, by decide, ?_⟩
  refine ⟨fun i r M => (∃ z o5 o6 o7 o8 o9 o10 o11 o12 o13 o14 o15 o16 o17 o18 o19 o20 fs, r = [some (.r (ns.map PyData.int)), some (.d (.int c)), some (.l pn), some (.l z), some (.d (.list (fs.map fun f => PyData.str (Inf.key f)))), o5, o6, o7, o8, o9, o10, o11, o12, o13, o14, o15, o16, o17, o18, o19, o20] ∧
      fs.length = 2 * i ∧ Lns C0 C1 C2 M pn fs ∧ (∃ l, PenL l ∧ M pn = some (.lst l)) ∧ z ≠ pn ∧ M z = some (.lst (fs.map fun f => Y.l f.a))), ⟨z0, _, _, _, _, _, _, _, _, _, _, _, _, _, _, _, _, [], rfl, rfl, ⟨fun _ hf => by simp at hf, fun _ hf => by simp at hf⟩, ⟨l1, hl1, by rw [mu_ne nz]; exact hp2⟩, nz.symm, mu_same⟩, ?_⟩
  clear nz hp2 nz0 hm2 hl1
  rintro i _ m3 hi ⟨z, p5, p6, p7, p8, p9, p10, p11, p12, p13, p14, p15, p16, p17, p18, p19, p20, fs, rfl, hfl, hL, ⟨l3, hl3, hp3⟩, nzp, hz3⟩
  have hi6 : i ≤ 6 := hi
  refine ⟨trivial, fun hlt6 => ?_, fun hge6 => ?_⟩
  · refine ⟨_, rfl, pn, 3, l3, rfl, by decide, by decide, hl3, hp3, fun x l4 m4 x0 x3 hl4 hm4 => ?_⟩
    have hp4 : m4 pn = some (.lst l4) := hm4 _ _ mu_same
    have k4 : KeptZ pn m3 m4 := fun y o hy e => hm4 _ _ (by rw [mu_ne hy]; exact e)
    refine ⟨_, rfl, pn, 3, l4, rfl, by decide, by decide, hl4, hp4, fun y l5 m5 y0 y3 hl5 hm5 => ⟨len0, fun q nq => ⟨_, _, _, rfl, ?_⟩⟩⟩
    have hp5 : m5 pn = some (.lst l5) := hm5 _ _ mu_same
    have k5 : KeptZ pn m3 m5 := fun y o hy e => hm5 _ _ (by rw [mu_ne hy]; exact k4 y o hy e)
    have pq : pn ≠ q := fun e => by rw [e, nq] at hp5; cases hp5
    clear hm4 hm5 k4 hp4 hl4 hl3
    obtain ⟨j, rfl⟩ := Int.eq_ofNat_of_zero_le x0
    have hj : j < 3 := by omega
    obtain ⟨u, eu⟩ : ∃ u, u = 1 + y := ⟨_, rfl⟩
    have u1 : 1 ≤ u := by omega
    have u3 : u ≤ 3 := by omega
    rw [← eu]
    clear y0 y3 eu
    refine ⟨_, rfl, _, rfl, j, u, rfl, hj, u1, u3, fun a p m6 na np A hm6 => ⟨_, rfl, _, rfl, j, u, rfl, hj, u1, u3, fun b s m7 nb ns' B hm7 => ⟨_, _, rfl, ?_⟩⟩⟩
    have none_of : ∀ x, m5 x = none → m3 x = none := fun x hx => by
      cases e : m3 x with
      | none => rfl
      | some o =>
        have : x ≠ pn := fun z => by rw [z, hp5] at hx; cases hx
        rw [k5 x o this e] at hx; cases hx
    obtain ⟨npq, np5⟩ := mu_none np
    obtain ⟨nsq, ns5⟩ := mu_none (hm6.none ns')
    have S0 : Lap (fn3 C0 C1 C2 j) m3 m7 pn a b u p s q [] [] [] [] := {
      kept := fun x o hx e => hm7 _ _ (hm6 _ _ (by rw [mu_ne (fun z => by rw [z] at e; rw [none_of q nq] at e; cases e)]; exact k5 x o hx e))
      pen := ⟨l5, hl5, hm7 _ _ (hm6 _ _ (by rw [mu_ne pq]; exact hp5))⟩
      pn0 := ⟨_, hp3⟩
      A := A.le hm7
      B := B
      Q := ⟨hm7 _ _ (hm6 _ _ mu_same), .nil, by simp⟩
      np := none_of p np5
      ns := none_of s ns5
      nq := none_of q nq
      nb := fun _ hx => by simp at hx
      ps := fun e => by have := A.ls; rw [e, ns'] at this; cases this
      pq := npq
      sq := nsq }
    clear none_of npq np5 nsq ns5 hm6 hm7 na np nb ns' A B k5 pq nq hp5 hl5
    obtain ⟨l7, hl7, hp7⟩ := S0.pen
    refine ⟨_, rfl, pn, 3, l7, rfl, by decide, by decide, hl7, hp7, fun n l8 m8 n0 n3 hl8 hm8 => ⟨n, rfl, by omega, by omega, ?_⟩⟩
    have S1 := S0.draw hl8 hm8
    clear S0 hm8 hl8 hl7 hp7
    refine ⟨fun _ r M => (∃ o5 o11 o12 o13 o14 o15 o16 o17 o18 o19 o20, r = [some (.r (ns.map PyData.int)), some (.d (.int c)), some (.l pn), some (.l z), some (.d (.list (fs.map fun f => PyData.str (Inf.key f)))), o5, some (.d (.int (j : Int))), some (.d (.int u)), some (.l q), some (.l a), some (.l b), o11, o12, o13, o14, o15, o16, o17, o18, o19, o20]) ∧ Lap (fn3 C0 C1 C2 j) m3 M pn a b u p s q [] [] [] [],
      ⟨⟨_, _, _, _, _, _, _, _, _, _, _, rfl⟩, S1⟩, ?_⟩
    clear S1
    rintro i2 _ m9 hi2 ⟨⟨p5', p11, p12, p13, p14, p15, p16, p17, p18, p19, p20, rfl⟩, S⟩
    refine ⟨trivial, fun _ => ?_, fun _ => ?_⟩
    · obtain ⟨dy, hob⟩ := S.B.ob
      refine alt_meth (D := fun j => d_request (fn3 C0 C1 C2 j)) hj rfl hob (fl_no _ _ (by decide +kernel) (by decide +kernel)) ?_
      refine ⟨b, u, s, [], 5, 9, rfl, by decide, by decide, by decide, by decide, S.B, Nat.zero_le _, fun m10 h10 => ?_⟩
      rw [ask_one u1] at h10
      have S2 := S.two h10
      obtain ⟨dz, hob2⟩ := S2.B.ob
      refine alt_meth (D := fun j => d_release (fn3 C0 C1 C2 j) E0 (svR (kf j))) hj rfl hob2 (fl_no _ _ (by decide +kernel) (by decide +kernel)) ?_
      refine ⟨b, u, s, [⟨9, 5, true⟩], 5, rfl, by decide, by decide, S2.B, by decide, fun e => ?_, fun rs' d e m11 h11 => ?_⟩
      · rw [rel_one] at e; cases e
      · rw [rel_one] at e; cases e
        exact ⟨⟨_, _, _, _, _, _, _, _, _, _, _, rfl⟩, S2.two h11⟩
    obtain ⟨l9, hl9, hp9⟩ := S.pen
    refine ⟨_, rfl, pn, 4, l9, rfl, by decide, by decide, hl9, hp9, fun n2 l10 m10 n20 n24 hl10 hm10 => ⟨n2, rfl, by omega, by omega, ?_⟩⟩
    have S1 := S.draw hl10 hm10
    clear S hm10 hl10 hl9 hp9
    refine ⟨fun i r M => (∃ o5 o11 o12 o13 o14 o15 o16 o17 o18 o19 o20, r = [some (.r (ns.map PyData.int)), some (.d (.int c)), some (.l pn), some (.l z), some (.d (.list (fs.map fun f => PyData.str (Inf.key f)))), o5, some (.d (.int (j : Int))), some (.d (.int u)), some (.l q), some (.l a), some (.l b), o11, o12, o13, o14, o15, o16, o17, o18, o19, o20]) ∧ ∃ bs rs, rs.length ≤ i ∧ OkR rs ∧ Lap (fn3 C0 C1 C2 j) m3 M pn a b u p s q bs rs rs rs,
      ⟨⟨_, _, _, _, _, _, _, _, _, _, _, rfl⟩, [], [], Nat.le_refl _, fun _ hr => by simp at hr, S1⟩, ?_⟩
    clear S1
    rintro i3 _ m11 hi3 ⟨⟨p5'', p11', p12', p13', p14', p15', p16', p17', p18', p19', p20', rfl⟩, bs, rs, hrl, okR, S⟩
    have hi33 : i3 ≤ 3 := Nat.le_trans hi3 (by show n2.toNat ≤ 3; omega)
    refine ⟨trivial, fun _ => ?_, fun _ => ?_⟩
    · obtain ⟨l11, hl11, hp11⟩ := S.pen
      refine ⟨_, rfl, pn, 2, l11, rfl, by decide, by decide, hl11, hp11, fun i' l12 m12 i0 i2' hl12 hm12 => ⟨_, rfl, pn, 2, l12, rfl, by decide, by decide, hl12, hm12 _ _ mu_same, fun k l13 m13 k0 k2 hl13 hm13 => ⟨_, _, rfl, ?_⟩⟩⟩
      have S1 := (S.draw hl12 hm12).draw hl13 hm13
      refine ⟨_, rfl, _, rfl, _, rfl, _, rfl, q, u, i', k, bs, rs, rfl, S1.Q, by omega, fun bs' m14 hQ fr hb => ?_⟩
      rw [ask_eq] at hQ
      have S2 := S1.req hQ fr hb
      obtain ⟨dx, hoa⟩ := S2.A.ob
      refine alt_meth (D := fun j => d_request (fn3 C0 C1 C2 j)) hj rfl hoa (fl_no _ _ (by decide +kernel) (by decide +kernel)) ?_
      refine ⟨_, rfl, _, rfl, a, u, p, rs, i', k, rfl, i0, by omega, k0, by omega, S2.A, by omega, fun m15 h15 => ?_⟩
      have S3 := S2.one h15
      obtain ⟨dy, hob⟩ := S3.B.ob
      refine alt_meth (D := fun j => d_request (fn3 C0 C1 C2 j)) hj rfl hob (fl_no _ _ (by decide +kernel) (by decide +kernel)) ?_
      refine ⟨_, rfl, _, rfl, b, u, s, rs, i', k, rfl, i0, by omega, k0, by omega, S3.B, by omega, fun m16 h16 => ?_⟩
      exact ⟨⟨_, _, _, _, _, _, _, _, _, _, _, rfl⟩, bs', _, by unfold askF; rw [List.length_append]; exact Nat.succ_le_succ hrl, okR_ask okR i0 (by omega) k0 (by omega), S3.two h16⟩
    have hz11 : m11 z = some (.lst (fs.map fun f => Y.l f.a)) := S.kept z _ nzp hz3
    have hrl3 : rs.length ≤ 3 := by omega
    have hwn : waitN rs ≤ 3 := Nat.le_trans (List.length_filter_le _ _) hrl3
    have hlf : (fs.map fun f => Y.l f.a).length + [Y.l a, Y.l b].length ≤ 10000 := by rw [List.length_map]; show fs.length + 2 ≤ _; omega
    refine ⟨_, rfl, _, rfl, _, rfl, len2 _ _, fun w nw => ⟨_, _, (mu_ne (fun e => by rw [e, nw] at hz11; cases hz11)).trans hz11, mu_same, hlf, fun z' nz' => ?_⟩⟩
    have S4 := S.le ((Mle.new (o := .lst [.l a, .l b]) nw).trans (Mle.new (o := .lst ((fs.map fun f => Y.l f.a) ++ [.l a, .l b])) nz'))
    have nz'pn : z' ≠ pn := fun e => by
      obtain ⟨l, _, hl⟩ := S.pen
      rw [e] at nz'
      have := (Mle.new (o := .lst [Y.l a, Y.l b]) nw) _ _ hl
      rw [this] at nz'; cases nz'
    have hz' : (mu (mu m11 w (.lst [.l a, .l b])) z' (.lst ((fs.map fun f => Y.l f.a) ++ [.l a, .l b]))) z' = some (.lst ((fs.map fun f => Y.l f.a) ++ [.l a, .l b])) := mu_same
    revert S4 hz'
    generalize mu (mu m11 w (.lst [.l a, .l b])) z' (.lst ((fs.map fun f => Y.l f.a) ++ [.l a, .l b])) = M0
    intro S4 hz'
    clear nw nz' hz11 S
    refine ⟨_, rfl, _, rfl, _, rfl, _, rfl, j, u, q, bs, rs, rfl, S4.Q, ok_key hj u1 u3 okR (by omega), fun m17 h17 => ⟨len1 _, [_], rfl, _, _, rfl, rfl, by decide, by decide, by show 1 ≤ 10; decide, ?_⟩⟩
    have S5 := S4.le h17
    refine ⟨_, _, (fs ++ [Inf.mk j a u p rs, Inf.mk j b u s rs]).map fun f => PyData.str (Inf.key f), rfl, rfl, ?_, ?_, ?_⟩
    · rw [List.length_map, List.length_map]; show fs.length + 2 ≤ _; omega
    · rw [List.map_append, List.map_append]; rfl
    refine ⟨_, rfl, _, rfl, _, rfl, j, u, q, bs, rs, rfl, hj, u1, u3, S5.Q, by omega, fun m18 h18 => ?_⟩
    have S6 := S5.le h18
    refine repr_alt hj rfl S6.A (by omega) u1 u3 (fun m19 h19 => repr_alt hj rfl (S6.le h19).B (by omega) u1 u3 (fun m20 h20 => ⟨len2 _ _, [_, _], rfl, _, rfl, _, rfl, len2 _ _, [_, _], rfl, ?_⟩))
    have S7 := (S6.le h19).le h20
    refine ⟨_, _, .list [.str (wrT j u (waitN rs)), .str (wrT j u (waitN rs))], rfl, .d _, .d _, ok_wr hj u1 u3 hwn, true, rfl, iteE rfl ?_⟩
    refine ⟨_, rfl, _, rfl, j, a, u, p, rs, rfl, hj, S7.A, true, rfl, iteE rfl ?_⟩
    have Mx := ((h17.trans h18).trans h19).trans h20
    have eL := hL.kept ⟨l3, hp3⟩ S7.kept
    have hp7 := S7.pen
    have i1 : Inf.Ok ⟨j, a, u, p, rs⟩ := ⟨hj, u1, u3, okR, hrl3⟩
    have i2 : Inf.Ok ⟨j, b, u, s, rs⟩ := ⟨hj, u1, u3, okR, hrl3⟩
    refine ⟨z', _, _, _, _, _, _, _, _, _, _, _, _, _, _, _, _, fs ++ [⟨j, a, u, p, rs⟩, ⟨j, b, u, s, rs⟩], rfl, by rw [List.length_append]; show fs.length + 2 = _; omega, ⟨?_, ?_⟩, hp7, nz'pn, ?_⟩
    · intro f hf
      rcases List.mem_append.mp hf with hf | hf
      · exact eL.ok f hf
      · simp only [List.mem_cons, List.not_mem_nil, or_false] at hf
        rcases hf with rfl | rfl
        · exact i1
        · exact i2
    · intro f hf
      rcases List.mem_append.mp hf with hf | hf
      · exact eL.at_ f hf
      · simp only [List.mem_cons, List.not_mem_nil, or_false] at hf
        rcases hf with rfl | rfl
        · exact ⟨S7.A, S7.pns S7.np⟩
        · exact ⟨S7.B, S7.pns S7.ns⟩
    · rw [List.map_append]; exact Mx _ _ hz'
  have e6 : i = 6 := hge6
  subst e6
  have hlf : fs.length ≤ 10000 := by omega
  have nth : ∀ {n : Nat}, n < (fs.map fun f => Y.l f.a).length → ∃ f, f ∈ fs ∧ (fs.map fun f => Y.l f.a)[n]? = some (.l f.a) ∧ ((fs.map fun f => PyData.str (Inf.key f)).map Y.d)[n]? = some (.d (.str (Inf.key f))) := fun {n} hn => by
    rw [List.length_map] at hn
    exact ⟨fs[n], List.getElem_mem hn, by rw [List.getElem?_map, List.getElem?_eq_getElem hn]; rfl, by rw [List.getElem?_map, List.getElem?_map, List.getElem?_eq_getElem hn]; rfl⟩
  refine ⟨_, rfl, _, fs.map fun f => Y.l f.a, rfl, hz3, ?_⟩
  refine ⟨fun _ r M => (∃ o5 o6 o7 o8 o9 o10 o11 o12 o13 o14 o15 o16 o17 o18 o19 o20, r = [some (.r (ns.map PyData.int)), some (.d (.int c)), some (.l pn), some (.l z), some (.d (.list (fs.map fun f => PyData.str (Inf.key f)))), o5, o6, o7, o8, o9, o10, o11, o12, o13, o14, o15, o16, o17, o18, o19, o20]) ∧ Mle m3 M,
    ⟨⟨_, _, _, _, _, _, _, _, _, _, _, _, _, _, _, _, rfl⟩, Mle.refl⟩, ?_⟩
  rintro n1 _ m4 hn1 ⟨⟨q5, q6, q7, q8, q9, q10, q11, q12, q13, q14, q15, q16, q17, q18, q19, q20, rfl⟩, hm4⟩
  refine ⟨fun pz e => by cases e; exact (hm4 _ _ hz3).trans hz3.symm, fun hlt1 => ?_, fun _ => ⟨_, _, _, _, _, _, _, _, _, _, _, _, _, _, _, _, _, _, _, _, rfl⟩⟩
  obtain ⟨fa', hfa, e1, e1k⟩ := nth hlt1
  have okA := hL.ok fa' hfa
  refine ⟨.l fa'.a, e1, fun t1 nt1 => tup2 (.inr ⟨t1, rfl, mu_same⟩) ⟨_, _, rfl, _, _, rfl, rfl, ?_⟩⟩
  have hm5 : Mle m3 (mu m4 t1 (.tup [.d (.int (n1 : Int)), .l fa'.a])) := hm4.trans (Mle.new nt1)
  revert hm5
  generalize mu m4 t1 (.tup [.d (.int (n1 : Int)), .l fa'.a]) = m5
  intro hm5
  clear hm4 nt1
  refine ⟨_, rfl, _, fs.map fun f => Y.l f.a, rfl, hm5 _ _ hz3, ?_⟩
  refine ⟨fun _ r M => (∃ o5 o6 o7 o8 o9 o10 o11 o12 o13 o14 o15 o18 o19 o20, r = [some (.r (ns.map PyData.int)), some (.d (.int c)), some (.l pn), some (.l z), some (.d (.list (fs.map fun f => PyData.str (Inf.key f)))), o5, o6, o7, o8, o9, o10, o11, o12, o13, o14, o15, some (.d (.int (n1 : Int))), some (.l fa'.a), o18, o19, o20]) ∧ Mle m3 M,
    ⟨⟨_, _, _, _, _, _, _, _, _, _, _, _, _, _, rfl⟩, hm5⟩, ?_⟩
  rintro n2 _ m6 hn2 ⟨⟨r5, r6, r7, r8, r9, r10, r11, r12, r13, r14, r15, r18, r19, r20, rfl⟩, hm6⟩
  refine ⟨fun pz e => by cases e; exact (hm6 _ _ hz3).trans (hm5 _ _ hz3).symm, fun hlt2 => ?_, fun _ => ?_⟩
  · obtain ⟨fb', hfb, e2, e2k⟩ := nth hlt2
    have okB := hL.ok fb' hfb
    refine ⟨.l fb'.a, e2, fun t2 nt2 => tup2 (.inr ⟨t2, rfl, mu_same⟩) ⟨_, _, rfl, _, _, rfl, rfl, ?_⟩⟩
    have hm7 : Mle m3 (mu m6 t2 (.tup [.d (.int (n2 : Int)), .l fb'.a])) := hm6.trans (Mle.new nt2)
    revert hm7
    generalize mu m6 t2 (.tup [.d (.int (n2 : Int)), .l fb'.a]) = m7
    intro hm7
    clear hm6 nt2
    have L7 := hL.le hm7
    have A := (L7.at_ fa' hfa).1
    have B := (L7.at_ fb' hfb).1
    have hkey := key_inj okA.j3 okA.u1 okA.u3 okA.ok okB.j3 okB.u1 okB.u3 okB.ok
    refine ⟨_, rfl, _, rfl, (n1 : Int), _, _, rfl, rfl, at_nat e1k, _, rfl, _, rfl, (n2 : Int), _, _, rfl, rfl, at_nat e2k, ?_⟩
    refine ⟨_, rfl, _, rfl, eq_lines (neg := false) HI HF HS okA.j3 okB.j3 A B ⟨_, rfl, _, rfl, eq_lines (neg := true) HI HF HS okA.j3 okB.j3 A B ⟨len2 _ _, [_, _], rfl, _, rfl, _, rfl, _, tru_b _, len2 _ _, [_, _], rfl, ?_⟩⟩⟩
    refine ⟨_, _, .list [.bool (decide (fa'.j = fb'.j ∧ fa'.u = fb'.u ∧ fa'.rs = fb'.rs)), .bool (!decide (fa'.j = fb'.j ∧ fa'.u = fb'.u ∧ fa'.rs = fb'.rs))], rfl, two_b rfl, two_c hkey, ok_bools _ _, true, rfl, iteE rfl ?_⟩
    exact ⟨⟨_, _, _, _, _, _, _, _, _, _, _, _, _, _, rfl⟩, hm7⟩
  have A := ((hL.le hm6).at_ fa' hfa).1
  have hwn : waitN fa'.rs ≤ 3 := Nat.le_trans (List.length_filter_le _ _) okA.l3
  have l24 : fa'.rs.length ≤ 24 := by have := okA.l3; omega
  refine repr_alt okA.j3 rfl A l24 okA.u1 okA.u3 (fun m7 h7 => ⟨len0, _, rfl, len1 _, fun w1 nw1 => ⟨len6 _ _ _ _ _ _, fun w2 nw2 => ?_⟩⟩)
  have hw1 : mu (mu m7 w1 (.lst [.l fa'.a])) w2 (.lst [.d .none, .d (.int 1), .d (.str (wrT fa'.j fa'.u (waitN fa'.rs))), .d (.tuple []), .l w1, .d (.bool true)]) w1 = some (.lst [.l fa'.a]) := (mu_ne (fun e => by rw [e, mu_same] at nw2; cases nw2)).trans mu_same
  have hm8 := (hm6.trans h7).trans ((Mle.new (o := .lst [.l fa'.a]) nw1).trans (Mle.new (o := .lst [.d .none, .d (.int 1), .d (.str (wrT fa'.j fa'.u (waitN fa'.rs))), .d (.tuple []), .l w1, .d (.bool true)]) nw2))
  refine ⟨_, .inl mu_same, ?_⟩
  have hw2 : mu (mu m7 w1 (.lst [.l fa'.a])) w2 (.lst [.d .none, .d (.int 1), .d (.str (wrT fa'.j fa'.u (waitN fa'.rs))), .d (.tuple []), .l w1, .d (.bool true)]) w2 = some (.lst [.d .none, .d (.int 1), .d (.str (wrT fa'.j fa'.u (waitN fa'.rs))), .d (.tuple []), .l w1, .d (.bool true)]) := mu_same
  revert hw1 hm8 hw2
  generalize mu (mu m7 w1 (.lst [.l fa'.a])) w2 (.lst [.d .none, .d (.int 1), .d (.str (wrT fa'.j fa'.u (waitN fa'.rs))), .d (.tuple []), .l w1, .d (.bool true)]) = m8
  intro hw1 hm8 hw2
  clear nw1 nw2 h7 hm6
  refine ⟨fun _ r M => (∃ o5 o6 o7 o8 o9 o10 o11 o12 o13 o14 o15 o18 o19 o20, r = [some (.r (ns.map PyData.int)), some (.d (.int c)), some (.l pn), some (.l z), some (.d (.list (fs.map fun f => PyData.str (Inf.key f)))), o5, o6, o7, o8, o9, o10, o11, o12, o13, o14, o15, some (.d (.int (n1 : Int))), some (.l fa'.a), o18, o19, o20]) ∧ Mle m8 M,
    ⟨⟨_, _, _, _, _, _, _, _, _, _, _, _, _, _, rfl⟩, Mle.refl⟩, ?_⟩
  rintro n3 _ m9 hn3 ⟨⟨s5, s6, s7, s8, s9, s10, s11, s12, s13, s14, s15, s18, s19, s20, rfl⟩, hm9⟩
  refine ⟨fun pz e => by cases e; exact (hm9 _ _ hw2).trans hw2.symm, fun hlt3 => ?_, fun _ => ⟨⟨_, _, _, _, _, _, _, _, _, _, _, _, _, _, _, _, rfl⟩, hm8.trans hm9⟩⟩
  have A9 := A
  obtain ⟨y, ey, T', hT', hTy⟩ : ∃ y, [Y.d .none, .d (.int 1), .d (.str (wrT fa'.j fa'.u (waitN fa'.rs))), .d (.tuple []), .l w1, .d (.bool true)][n3]? = some y ∧ ∃ T, T ∈ tyS ∧ TyO K m9 y (.type T) := by
    have hl3 : n3 < [Y.d .none, .d (.int 1), .d (.str (wrT fa'.j fa'.u (waitN fa'.rs))), .d (.tuple []), .l w1, .d (.bool true)].length := hlt3
    refine ⟨_, List.getElem?_eq_getElem hl3, ?_⟩
    have := List.getElem_mem hl3
    generalize [Y.d .none, .d (.int 1), .d (.str (wrT fa'.j fa'.u (waitN fa'.rs))), .d (.tuple []), .l w1, .d (.bool true)][n3] = y at *
    simp only [List.mem_cons, List.not_mem_nil, or_false] at this
    rcases this with rfl | rfl | rfl | rfl | rfl | rfl
    · exact ⟨"NoneType", by decide, .d _⟩
    · exact ⟨"int", by decide, .d _⟩
    · exact ⟨"str", by decide, .d _⟩
    · exact ⟨"tuple", by decide, .d _⟩
    · exact ⟨"list", by decide, .lst (hm9 _ _ hw1)⟩
    · exact ⟨"bool", by decide, .d _⟩
  have A9 := ((hL.le (hm8.trans hm9)).at_ fa' hfa).1
  refine ⟨y, ey, _, rfl, _, rfl, eq_thing (neg := false) HT okA.j3 A9 hTy hT' ⟨_, rfl, _, rfl, eq_thing (neg := true) HT okA.j3 A9 hTy hT' ⟨len2 _ _, [_, _], rfl, len2 _ _, [_, _], rfl, ?_⟩⟩⟩
  refine ⟨_, _, .list [.bool false, .bool true], rfl, .d _, .d _, ok_bools _ _, true, rfl, iteE rfl ?_⟩
  exact ⟨⟨_, _, _, _, _, _, _, _, _, _, _, _, _, _, rfl⟩, hm9⟩
end
/-! ### what the top has written -/
theorem all_mk {l : PySem.W.OpenLaw} {w : World} {K : PySem.W.Frag} {h : Heap} {mg : Str → Option Value} {fa : Addr} (X : K.In h) (G : h.Ns mainGlobals mg) (hfa : mg "law" = some (.ref fa))
    {C0 : Addr}
    {t_C0MOST_UNITS : Tok}
    {C1 : Addr}
    {t_C1MOST_UNITS : Tok}
    {C2 : Addr}
    {t_C2MOST_UNITS : Tok}
    {XH : Addr}
    {t_LAST_PROCESS : Tok}
    {t_LAST_RANK : Tok}
    {CL : Addr} {t_CLMOST_UNITS : Tok}
    {ocl_C0 : Value} {ddl_C0 : Option Addr} {dtl_C0 : Data} {sll_C0 : Array (Option Value)} {tkn_C0 : Tok}
    {ocl_C1 : Value} {ddl_C1 : Option Addr} {dtl_C1 : Data} {sll_C1 : Array (Option Value)} {tkn_C1 : Tok}
    {ocl_C2 : Value} {ddl_C2 : Option Addr} {dtl_C2 : Data} {sll_C2 : Array (Option Value)} {tkn_C2 : Tok}
    {f_is_between : Addr} {od_is_between an_is_between : Option Addr} {sl_is_between : Array (Option Value)} {oc_is_between kV_is_between dc_is_between pm_is_between ct_is_between : Value}
    {cd_is_between : Value}
    {f_check_number : Addr} {od_check_number an_check_number : Option Addr} {sl_check_number : Array (Option Value)} {oc_check_number kV_check_number dc_check_number pm_check_number ct_check_number : Value}
    {cd_check_number : Value}
    {f_check_process : Addr} {od_check_process an_check_process : Option Addr} {sl_check_process : Array (Option Value)} {oc_check_process kV_check_process dc_check_process pm_check_process ct_check_process : Value}
    {cd_check_process : Value}
    {f_check_rank : Addr} {od_check_rank an_check_rank : Option Addr} {sl_check_rank : Array (Option Value)} {oc_check_rank kV_check_rank dc_check_rank pm_check_rank ct_check_rank : Value}
    {cd_check_rank : Value}
    {f_init : Addr} {od_init an_init : Option Addr} {sl_init : Array (Option Value)} {oc_init kV_init dc_init pm_init ct_init : Value}
    {cd_init : Value}
    {f_holders : Addr} {od_holders an_holders : Option Addr} {sl_holders : Array (Option Value)} {oc_holders kV_holders dc_holders pm_holders ct_holders : Value}
    {cd_holders : Value}
    {f_free : Addr} {od_free an_free : Option Addr} {sl_free : Array (Option Value)} {oc_free kV_free dc_free pm_free ct_free : Value}
    {cd_free : Value}
    {p_free : Addr} {r_free : List Value}
    {f_served : Addr} {od_served an_served : Option Addr} {sl_served : Array (Option Value)} {oc_served kV_served dc_served pm_served ct_served : Value}
    {cd_served : Value}
    {f_waiting : Addr} {od_waiting an_waiting : Option Addr} {sl_waiting : Array (Option Value)} {oc_waiting kV_waiting dc_waiting pm_waiting ct_waiting : Value}
    {cd_waiting : Value}
    {f_length : Addr} {od_length an_length : Option Addr} {sl_length : Array (Option Value)} {oc_length kV_length dc_length pm_length ct_length : Value}
    {cd_length : Value}
    {p_length : Addr} {r_length : List Value}
    {f_repr : Addr} {od_repr an_repr : Option Addr} {sl_repr : Array (Option Value)} {oc_repr kV_repr dc_repr pm_repr ct_repr : Value}
    {cd_repr : Value}
    {f_request : Addr} {od_request an_request : Option Addr} {sl_request : Array (Option Value)} {oc_request kV_request dc_request pm_request ct_request : Value}
    {cd_request : Value}
    {f_release : Addr} {od_release an_release : Option Addr} {sl_release : Array (Option Value)} {oc_release kV_release dc_release pm_release ct_release : Value}
    {cd_release : Value}
    {f_Rholders : Addr} {od_Rholders an_Rholders : Option Addr} {sl_Rholders : Array (Option Value)} {oc_Rholders kV_Rholders dc_Rholders pm_Rholders ct_Rholders : Value}
    {ca_Rholders cc_Rholders : Addr} {oca_Rholders occ_Rholders : Value} {dca_Rholders dcc_Rholders : Option Addr} {sca_Rholders scc_Rholders : Array (Option Value)} {vs_Rholders : Array Value} {fi_Rholders : Str} {tf_Rholders : Tok}
    {f_Rfree : Addr} {od_Rfree an_Rfree : Option Addr} {sl_Rfree : Array (Option Value)} {oc_Rfree kV_Rfree dc_Rfree pm_Rfree ct_Rfree : Value}
    {cd_Rfree : Value}
    {p_Rfree : Addr} {r_Rfree : List Value}
    {f_Rserved : Addr} {od_Rserved an_Rserved : Option Addr} {sl_Rserved : Array (Option Value)} {oc_Rserved kV_Rserved dc_Rserved pm_Rserved ct_Rserved : Value}
    {ca_Rserved cc_Rserved : Addr} {oca_Rserved occ_Rserved : Value} {dca_Rserved dcc_Rserved : Option Addr} {sca_Rserved scc_Rserved : Array (Option Value)} {vs_Rserved : Array Value} {fi_Rserved : Str} {tf_Rserved : Tok}
    {f_Rwaiting : Addr} {od_Rwaiting an_Rwaiting : Option Addr} {sl_Rwaiting : Array (Option Value)} {oc_Rwaiting kV_Rwaiting dc_Rwaiting pm_Rwaiting ct_Rwaiting : Value}
    {ca_Rwaiting cc_Rwaiting : Addr} {oca_Rwaiting occ_Rwaiting : Value} {dca_Rwaiting dcc_Rwaiting : Option Addr} {sca_Rwaiting scc_Rwaiting : Array (Option Value)} {vs_Rwaiting : Array Value} {fi_Rwaiting : Str} {tf_Rwaiting : Tok}
    {f_Rlength : Addr} {od_Rlength an_Rlength : Option Addr} {sl_Rlength : Array (Option Value)} {oc_Rlength kV_Rlength dc_Rlength pm_Rlength ct_Rlength : Value}
    {cd_Rlength : Value}
    {p_Rlength : Addr} {r_Rlength : List Value}
    {f_Rrepr : Addr} {od_Rrepr an_Rrepr : Option Addr} {sl_Rrepr : Array (Option Value)} {oc_Rrepr kV_Rrepr dc_Rrepr pm_Rrepr ct_Rrepr : Value}
    {cd_Rrepr : Value}
    {f_Rrequest : Addr} {od_Rrequest an_Rrequest : Option Addr} {sl_Rrequest : Array (Option Value)} {oc_Rrequest kV_Rrequest dc_Rrequest pm_Rrequest ct_Rrequest : Value}
    {ca_Rrequest cc_Rrequest : Addr} {oca_Rrequest occ_Rrequest : Value} {dca_Rrequest dcc_Rrequest : Option Addr} {sca_Rrequest scc_Rrequest : Array (Option Value)} {vs_Rrequest : Array Value} {fi_Rrequest : Str} {tf_Rrequest : Tok}
    {f_Rrelease : Addr} {od_Rrelease an_Rrelease : Option Addr} {sl_Rrelease : Array (Option Value)} {oc_Rrelease kV_Rrelease dc_Rrelease pm_Rrelease ct_Rrelease : Value}
    {ca_Rrelease cc_Rrelease : Addr} {oca_Rrelease occ_Rrelease : Value} {dca_Rrelease dcc_Rrelease : Option Addr} {sca_Rrelease scc_Rrelease : Array (Option Value)} {vs_Rrelease : Array Value} {fi_Rrelease : Str} {tf_Rrelease : Tok}
    {f_Pholders : Addr} {od_Pholders an_Pholders : Option Addr} {sl_Pholders : Array (Option Value)} {oc_Pholders kV_Pholders dc_Pholders pm_Pholders ct_Pholders : Value}
    {ca_Pholders cc_Pholders : Addr} {oca_Pholders occ_Pholders : Value} {dca_Pholders dcc_Pholders : Option Addr} {sca_Pholders scc_Pholders : Array (Option Value)} {vs_Pholders : Array Value} {fi_Pholders : Str} {tf_Pholders : Tok}
    {f_Pfree : Addr} {od_Pfree an_Pfree : Option Addr} {sl_Pfree : Array (Option Value)} {oc_Pfree kV_Pfree dc_Pfree pm_Pfree ct_Pfree : Value}
    {cd_Pfree : Value}
    {p_Pfree : Addr} {r_Pfree : List Value}
    {f_Pwaiting : Addr} {od_Pwaiting an_Pwaiting : Option Addr} {sl_Pwaiting : Array (Option Value)} {oc_Pwaiting kV_Pwaiting dc_Pwaiting pm_Pwaiting ct_Pwaiting : Value}
    {ca_Pwaiting cc_Pwaiting : Addr} {oca_Pwaiting occ_Pwaiting : Value} {dca_Pwaiting dcc_Pwaiting : Option Addr} {sca_Pwaiting scc_Pwaiting : Array (Option Value)} {vs_Pwaiting : Array Value} {fi_Pwaiting : Str} {tf_Pwaiting : Tok}
    {f_Plength : Addr} {od_Plength an_Plength : Option Addr} {sl_Plength : Array (Option Value)} {oc_Plength kV_Plength dc_Plength pm_Plength ct_Plength : Value}
    {cd_Plength : Value}
    {p_Plength : Addr} {r_Plength : List Value}
    {f_Prepr : Addr} {od_Prepr an_Prepr : Option Addr} {sl_Prepr : Array (Option Value)} {oc_Prepr kV_Prepr dc_Prepr pm_Prepr ct_Prepr : Value}
    {cd_Prepr : Value}
    {f_Prequest : Addr} {od_Prequest an_Prequest : Option Addr} {sl_Prequest : Array (Option Value)} {oc_Prequest kV_Prequest dc_Prequest pm_Prequest ct_Prequest : Value}
    {ca_Prequest cc_Prequest : Addr} {oca_Prequest occ_Prequest : Value} {dca_Prequest dcc_Prequest : Option Addr} {sca_Prequest scc_Prequest : Array (Option Value)} {vs_Prequest : Array Value} {fi_Prequest : Str} {tf_Prequest : Tok}
    {f_Prelease : Addr} {od_Prelease an_Prelease : Option Addr} {sl_Prelease : Array (Option Value)} {oc_Prelease kV_Prelease dc_Prelease pm_Prelease ct_Prelease : Value}
    {ca_Prelease cc_Prelease : Addr} {oca_Prelease occ_Prelease : Value} {dca_Prelease dcc_Prelease : Option Addr} {sca_Prelease scc_Prelease : Array (Option Value)} {vs_Prelease : Array Value} {fi_Prelease : Str} {tf_Prelease : Tok}
    {f_are_alike : Addr} {od_are_alike an_are_alike : Option Addr} {sl_are_alike : Array (Option Value)} {oc_are_alike kV_are_alike dc_are_alike pm_are_alike ct_are_alike : Value}
    {cd_are_alike : Value}
    {f_eq : Addr} {od_eq an_eq : Option Addr} {sl_eq : Array (Option Value)} {oc_eq kV_eq dc_eq pm_eq ct_eq : Value}
    {cd_eq : Value}
    {f_Req : Addr} {od_Req an_Req : Option Addr} {sl_Req : Array (Option Value)} {oc_Req kV_Req dc_Req pm_Req ct_Req : Value}
    {cd_Req : Value}
    {f_Peq : Addr} {od_Peq an_Peq : Option Addr} {sl_Peq : Array (Option Value)} {oc_Peq kV_Peq dc_Peq pm_Peq ct_Peq : Value}
    {cd_Peq : Value}
    {f_law_cell_at : Addr} {od_law_cell_at an_law_cell_at : Option Addr} {sl_law_cell_at : Array (Option Value)} {oc_law_cell_at kV_law_cell_at dc_law_cell_at pm_law_cell_at ct_law_cell_at : Value}
    {cd_law_cell_at : Value}
    {f_law_pen : Addr} {od_law_pen an_law_pen : Option Addr} {sl_law_pen : Array (Option Value)} {oc_law_pen kV_law_pen dc_law_pen pm_law_pen ct_law_pen : Value}
    {cd_law_pen : Value}
    {f_law_draw : Addr} {od_law_draw an_law_draw : Option Addr} {sl_law_draw : Array (Option Value)} {oc_law_draw kV_law_draw dc_law_draw pm_law_draw ct_law_draw : Value}
    {cd_law_draw : Value}
    {f_law_same : Addr} {od_law_same an_law_same : Option Addr} {sl_law_same : Array (Option Value)} {oc_law_same kV_law_same dc_law_same pm_law_same ct_law_same : Value}
    {cd_law_same : Value}
    {f_law_made : Addr} {od_law_made an_law_made : Option Addr} {sl_law_made : Array (Option Value)} {oc_law_made kV_law_made dc_law_made pm_law_made ct_law_made : Value}
    {cd_law_made : Value}
    {f_law_request : Addr} {od_law_request an_law_request : Option Addr} {sl_law_request : Array (Option Value)} {oc_law_request kV_law_request dc_law_request pm_law_request ct_law_request : Value}
    {cd_law_request : Value}
    {f_law_key : Addr} {od_law_key an_law_key : Option Addr} {sl_law_key : Array (Option Value)} {oc_law_key kV_law_key dc_law_key pm_law_key ct_law_key : Value}
    {cd_law_key : Value}
    {f_law_written : Addr} {od_law_written an_law_written : Option Addr} {sl_law_written : Array (Option Value)} {oc_law_written kV_law_written dc_law_written pm_law_written ct_law_written : Value}
    {cd_law_written : Value}
    {f_law_is_kind : Addr} {od_law_is_kind an_law_is_kind : Option Addr} {sl_law_is_kind : Array (Option Value)} {oc_law_is_kind kV_law_is_kind dc_law_is_kind pm_law_is_kind ct_law_is_kind : Value}
    {cd_law_is_kind : Value}
    {f_law : Addr} {od_law an_law : Option Addr} {sl_law : Array (Option Value)} {oc_law kV_law dc_law pm_law ct_law : Value}
    {cd_law : Value}
    (a_C0 : PySem.W.nsIn K mainGlobals "Line" = some (some (.ref C0)))
    (pg_C0 : PySem.W.plainGet K C0 Str.empty = true)
    (hd_C0 : PySem.W.hasDictIn K C0 = true)
    (po_C0 : PySem.W.plainOver K C0 = true)
    (sa_C0 : PySem.W.findIn K (.ref C0) "__setattr__" = some (some (.builtin "object.__setattr__")))
    (mk_C0 : PySem.W.makesIn K C0 = true)
    (kc_C0 : PySem.W.keepIn K (.ref C0) = true)
    (ic_C0 : PySem.W.isClsIn K C0 = true)
    (n_C0_units : PySem.W.findIn K (.ref C0) "_units" = some none)
    (n_C0_requests : PySem.W.findIn K (.ref C0) "_requests" = some none)
    (v_C0MOST_UNITS : PySem.W.findIn K (.ref C0) "MOST_UNITS" = some (some (.int 3 t_C0MOST_UNITS)))
    (w_C0MOST_UNITS : PySem.W.specialIn K (.int 3 t_C0MOST_UNITS) "__get__" = some none)
    (a_C1 : PySem.W.nsIn K mainGlobals "RankLine" = some (some (.ref C1)))
    (pg_C1 : PySem.W.plainGet K C1 Str.empty = true)
    (hd_C1 : PySem.W.hasDictIn K C1 = true)
    (po_C1 : PySem.W.plainOver K C1 = true)
    (sa_C1 : PySem.W.findIn K (.ref C1) "__setattr__" = some (some (.builtin "object.__setattr__")))
    (mk_C1 : PySem.W.makesIn K C1 = true)
    (kc_C1 : PySem.W.keepIn K (.ref C1) = true)
    (ic_C1 : PySem.W.isClsIn K C1 = true)
    (n_C1_units : PySem.W.findIn K (.ref C1) "_units" = some none)
    (n_C1_requests : PySem.W.findIn K (.ref C1) "_requests" = some none)
    (v_C1MOST_UNITS : PySem.W.findIn K (.ref C1) "MOST_UNITS" = some (some (.int 3 t_C1MOST_UNITS)))
    (w_C1MOST_UNITS : PySem.W.specialIn K (.int 3 t_C1MOST_UNITS) "__get__" = some none)
    (a_C2 : PySem.W.nsIn K mainGlobals "PreemptLine" = some (some (.ref C2)))
    (pg_C2 : PySem.W.plainGet K C2 Str.empty = true)
    (hd_C2 : PySem.W.hasDictIn K C2 = true)
    (po_C2 : PySem.W.plainOver K C2 = true)
    (sa_C2 : PySem.W.findIn K (.ref C2) "__setattr__" = some (some (.builtin "object.__setattr__")))
    (mk_C2 : PySem.W.makesIn K C2 = true)
    (kc_C2 : PySem.W.keepIn K (.ref C2) = true)
    (ic_C2 : PySem.W.isClsIn K C2 = true)
    (n_C2_units : PySem.W.findIn K (.ref C2) "_units" = some none)
    (n_C2_requests : PySem.W.findIn K (.ref C2) "_requests" = some none)
    (v_C2MOST_UNITS : PySem.W.findIn K (.ref C2) "MOST_UNITS" = some (some (.int 3 t_C2MOST_UNITS)))
    (w_C2MOST_UNITS : PySem.W.specialIn K (.int 3 t_C2MOST_UNITS) "__get__" = some none)
    (a_XH : PySem.W.nsIn K mainGlobals "HoldError" = some (some (.ref XH)))
    (x_XH : PySem.W.excIn K XH [.type "ValueError", .type "Exception", .type "BaseException", .type "object"] "ValueError.__new__" = true)
    (k_XH : PySem.W.keepIn K (.ref XH) = true)
    (b_XH : PySem.W.subIn K (.ref XH) (.type "BaseException") = some true)
    (t_XH : PySem.W.typeIn K (.ref XH) = some (.type "type"))
    (i_XH : PySem.W.isClsIn K XH = true)
    (s_XH : PySem.W.subIn K (.ref XH) (.ref XH) = some true)
    (v_LAST_PROCESS : PySem.W.nsIn K mainGlobals "LAST_PROCESS" = some (some (.int 5 t_LAST_PROCESS)))
    (v_LAST_RANK : PySem.W.nsIn K mainGlobals "LAST_RANK" = some (some (.int 9 t_LAST_RANK)))
    (a_CL : PySem.W.nsIn K mainGlobals "Line" = some (some (.ref CL)))
    (r_CL : PySem.W.readsIn K CL (.type "type") = true)
    (g_CL : PySem.W.specialIn K (.ref CL) "__getattribute__" = some (some (.builtin "type.__getattribute__")))
    (v_CLMOST_UNITS : PySem.W.findCls K (.ref CL) (.type "type") "MOST_UNITS" = some (.val (.int 3 t_CLMOST_UNITS)))
    (z_isinstance : PySem.W.nsIn K mainGlobals "isinstance" = some none)
    (z_int : PySem.W.nsIn K mainGlobals "int" = some none)
    (z_bool : PySem.W.nsIn K mainGlobals "bool" = some none)
    (z_len : PySem.W.nsIn K mainGlobals "len" = some none)
    (z_tuple : PySem.W.nsIn K mainGlobals "tuple" = some none)
    (z_enumerate : PySem.W.nsIn K mainGlobals "enumerate" = some none)
    (z_max : PySem.W.nsIn K mainGlobals "max" = some none)
    (z_repr : PySem.W.nsIn K mainGlobals "repr" = some none)
    (z_sorted : PySem.W.nsIn K mainGlobals "sorted" = some none)
    (z_range : PySem.W.nsIn K mainGlobals "range" = some none)
    (z_super : PySem.W.nsIn K mainGlobals "super" = some none)
    (z_str : PySem.W.nsIn K mainGlobals "str" = some none)
    (cn_ : PySem.W.specialIn K (.builtin "object.__class__") "__get__" = some (some (.builtin "getset_descriptor.__get__")))
    (ct_ : PySem.W.takesIn K (.builtin "object.__class__") = some true)
    (ha_C0 : PySem.W.findIn K (.ref C0) "__class__" = some (some (.builtin "object.__class__")))
    (hm_C0 : PySem.W.mroIn K C0 (.type "object") = some true)
    (ne_C0 : PySem.W.findIn K (.ref C0) "__ne__" = some (some (.builtin "object.__ne__")))
    (lk_C0 : K.lookup C0 = some ⟨ocl_C0, ddl_C0, dtl_C0, sll_C0⟩)
    (ls_C0 : (sll_C0[2]?).join = some (.str "Line" tkn_C0))
    (ty_C0 : PySem.W.typeIn K (.ref C0) = some (.type "type"))
    (fc_C0 : PySem.W.findCls K (.ref C0) (.type "type") "__name__" = some (.get (.builtin "getset_descriptor.__get__") (.builtin "type.__name__") (.ref C0) (.type "type")))
    (kt_NoneType_C0 : PySem.W.kitOne K (.type "NoneType") (.ref C0) = some false)
    (kt_bool_C0 : PySem.W.kitOne K (.type "bool") (.ref C0) = some false)
    (kt_int_C0 : PySem.W.kitOne K (.type "int") (.ref C0) = some false)
    (kt_str_C0 : PySem.W.kitOne K (.type "str") (.ref C0) = some false)
    (kt_tuple_C0 : PySem.W.kitOne K (.type "tuple") (.ref C0) = some false)
    (kt_list_C0 : PySem.W.kitOne K (.type "list") (.ref C0) = some false)
    (ki_C0_C0 : PySem.W.kitOne K (.ref C0) (.ref C0) = some true)
    (mq_C0_C0 : PySem.W.mroIn K C0 (.ref C0) = some true)
    (ki_C0_C1 : PySem.W.kitOne K (.ref C0) (.ref C1) = some false)
    (mq_C0_C1 : PySem.W.mroIn K C0 (.ref C1) = some false)
    (nc_C0_C1 : (Value.ref C0 != Value.ref C1) = true)
    (ki_C0_C2 : PySem.W.kitOne K (.ref C0) (.ref C2) = some false)
    (mq_C0_C2 : PySem.W.mroIn K C0 (.ref C2) = some false)
    (nc_C0_C2 : (Value.ref C0 != Value.ref C2) = true)
    (ha_C1 : PySem.W.findIn K (.ref C1) "__class__" = some (some (.builtin "object.__class__")))
    (hm_C1 : PySem.W.mroIn K C1 (.type "object") = some true)
    (ne_C1 : PySem.W.findIn K (.ref C1) "__ne__" = some (some (.builtin "object.__ne__")))
    (lk_C1 : K.lookup C1 = some ⟨ocl_C1, ddl_C1, dtl_C1, sll_C1⟩)
    (ls_C1 : (sll_C1[2]?).join = some (.str "RankLine" tkn_C1))
    (ty_C1 : PySem.W.typeIn K (.ref C1) = some (.type "type"))
    (fc_C1 : PySem.W.findCls K (.ref C1) (.type "type") "__name__" = some (.get (.builtin "getset_descriptor.__get__") (.builtin "type.__name__") (.ref C1) (.type "type")))
    (kt_NoneType_C1 : PySem.W.kitOne K (.type "NoneType") (.ref C1) = some false)
    (kt_bool_C1 : PySem.W.kitOne K (.type "bool") (.ref C1) = some false)
    (kt_int_C1 : PySem.W.kitOne K (.type "int") (.ref C1) = some false)
    (kt_str_C1 : PySem.W.kitOne K (.type "str") (.ref C1) = some false)
    (kt_tuple_C1 : PySem.W.kitOne K (.type "tuple") (.ref C1) = some false)
    (kt_list_C1 : PySem.W.kitOne K (.type "list") (.ref C1) = some false)
    (ki_C1_C0 : PySem.W.kitOne K (.ref C1) (.ref C0) = some true)
    (mq_C1_C0 : PySem.W.mroIn K C1 (.ref C0) = some true)
    (ki_C1_C1 : PySem.W.kitOne K (.ref C1) (.ref C1) = some true)
    (mq_C1_C1 : PySem.W.mroIn K C1 (.ref C1) = some true)
    (ki_C1_C2 : PySem.W.kitOne K (.ref C1) (.ref C2) = some false)
    (mq_C1_C2 : PySem.W.mroIn K C1 (.ref C2) = some false)
    (nc_C1_C2 : (Value.ref C1 != Value.ref C2) = true)
    (ha_C2 : PySem.W.findIn K (.ref C2) "__class__" = some (some (.builtin "object.__class__")))
    (hm_C2 : PySem.W.mroIn K C2 (.type "object") = some true)
    (ne_C2 : PySem.W.findIn K (.ref C2) "__ne__" = some (some (.builtin "object.__ne__")))
    (lk_C2 : K.lookup C2 = some ⟨ocl_C2, ddl_C2, dtl_C2, sll_C2⟩)
    (ls_C2 : (sll_C2[2]?).join = some (.str "PreemptLine" tkn_C2))
    (ty_C2 : PySem.W.typeIn K (.ref C2) = some (.type "type"))
    (fc_C2 : PySem.W.findCls K (.ref C2) (.type "type") "__name__" = some (.get (.builtin "getset_descriptor.__get__") (.builtin "type.__name__") (.ref C2) (.type "type")))
    (kt_NoneType_C2 : PySem.W.kitOne K (.type "NoneType") (.ref C2) = some false)
    (kt_bool_C2 : PySem.W.kitOne K (.type "bool") (.ref C2) = some false)
    (kt_int_C2 : PySem.W.kitOne K (.type "int") (.ref C2) = some false)
    (kt_str_C2 : PySem.W.kitOne K (.type "str") (.ref C2) = some false)
    (kt_tuple_C2 : PySem.W.kitOne K (.type "tuple") (.ref C2) = some false)
    (kt_list_C2 : PySem.W.kitOne K (.type "list") (.ref C2) = some false)
    (ki_C2_C0 : PySem.W.kitOne K (.ref C2) (.ref C0) = some true)
    (mq_C2_C0 : PySem.W.mroIn K C2 (.ref C0) = some true)
    (ki_C2_C1 : PySem.W.kitOne K (.ref C2) (.ref C1) = some true)
    (mq_C2_C1 : PySem.W.mroIn K C2 (.ref C1) = some true)
    (ki_C2_C2 : PySem.W.kitOne K (.ref C2) (.ref C2) = some true)
    (mq_C2_C2 : PySem.W.mroIn K C2 (.ref C2) = some true)
    (a_is_between : PySem.W.nsIn K mainGlobals "is_between" = some (some (.ref f_is_between)))
    (l_is_between : K.lookup f_is_between = some ⟨oc_is_between, od_is_between, .func (PySem.W.fnOf "is_between" "is_between" (defArgs s_is_between) (defBody s_is_between) (defScope s_is_between) .none kV_is_between dc_is_between pm_is_between an_is_between cd_is_between ct_is_between), sl_is_between⟩)
    (c_is_between : PySem.W.codeIn K cd_is_between "is_between" = true)
    (k_is_between : PySem.W.keepIn K (.ref f_is_between) = true)
    (a_check_number : PySem.W.nsIn K mainGlobals "check_number" = some (some (.ref f_check_number)))
    (l_check_number : K.lookup f_check_number = some ⟨oc_check_number, od_check_number, .func (PySem.W.fnOf "check_number" "check_number" (defArgs s_check_number) (defBody s_check_number) (defScope s_check_number) .none kV_check_number dc_check_number pm_check_number an_check_number cd_check_number ct_check_number), sl_check_number⟩)
    (c_check_number : PySem.W.codeIn K cd_check_number "check_number" = true)
    (k_check_number : PySem.W.keepIn K (.ref f_check_number) = true)
    (a_check_process : PySem.W.nsIn K mainGlobals "_check_process" = some (some (.ref f_check_process)))
    (l_check_process : K.lookup f_check_process = some ⟨oc_check_process, od_check_process, .func (PySem.W.fnOf "_check_process" "_check_process" (defArgs s_check_process) (defBody s_check_process) (defScope s_check_process) .none kV_check_process dc_check_process pm_check_process an_check_process cd_check_process ct_check_process), sl_check_process⟩)
    (c_check_process : PySem.W.codeIn K cd_check_process "_check_process" = true)
    (k_check_process : PySem.W.keepIn K (.ref f_check_process) = true)
    (a_check_rank : PySem.W.nsIn K mainGlobals "_check_rank" = some (some (.ref f_check_rank)))
    (l_check_rank : K.lookup f_check_rank = some ⟨oc_check_rank, od_check_rank, .func (PySem.W.fnOf "_check_rank" "_check_rank" (defArgs s_check_rank) (defBody s_check_rank) (defScope s_check_rank) .none kV_check_rank dc_check_rank pm_check_rank an_check_rank cd_check_rank ct_check_rank), sl_check_rank⟩)
    (c_check_rank : PySem.W.codeIn K cd_check_rank "_check_rank" = true)
    (k_check_rank : PySem.W.keepIn K (.ref f_check_rank) = true)
    (a_C0_init : PySem.W.findIn K (.ref C0) "__init__" = some (some (.ref f_init)))
    (a_C1_init : PySem.W.findIn K (.ref C1) "__init__" = some (some (.ref f_init)))
    (a_C2_init : PySem.W.findIn K (.ref C2) "__init__" = some (some (.ref f_init)))
    (l_init : K.lookup f_init = some ⟨oc_init, od_init, .func (PySem.W.fnOf "__init__" "Line.__init__" (defArgs s_init) (defBody s_init) (defScope s_init) .none kV_init dc_init pm_init an_init cd_init ct_init), sl_init⟩)
    (c_init : PySem.W.codeIn K cd_init "Line.__init__" = true)
    (i_init : PySem.W.isFn K (.ref f_init) = true)
    (k_init : PySem.W.keepIn K (.ref f_init) = true)
    (a_C0_holders : PySem.W.findIn K (.ref C0) "holders" = some (some (.ref f_holders)))
    (l_holders : K.lookup f_holders = some ⟨oc_holders, od_holders, .func (PySem.W.fnOf "holders" "Line.holders" (defArgs s_holders) (defBody s_holders) (defScope s_holders) .none kV_holders dc_holders pm_holders an_holders cd_holders ct_holders), sl_holders⟩)
    (c_holders : PySem.W.codeIn K cd_holders "Line.holders" = true)
    (i_holders : PySem.W.isFn K (.ref f_holders) = true)
    (k_holders : PySem.W.keepIn K (.ref f_holders) = true)
    (a_C0_free : PySem.W.findIn K (.ref C0) "free" = some (some (.ref p_free)))
    (g_free : PySem.W.specialIn K (.ref p_free) "__get__" = some (some (.builtin "property.__get__")))
    (t_free : PySem.W.takesIn K (.ref p_free) = some true)
    (r_freeF : PySem.W.recIn K p_free "property" = some (.ref f_free :: r_free))
    (l_free : K.lookup f_free = some ⟨oc_free, od_free, .func (PySem.W.fnOf "free" "Line.free" (defArgs s_free) (defBody s_free) (defScope s_free) .none kV_free dc_free pm_free an_free cd_free ct_free), sl_free⟩)
    (c_free : PySem.W.codeIn K cd_free "Line.free" = true)
    (i_free : PySem.W.isFn K (.ref f_free) = true)
    (k_free : PySem.W.keepIn K (.ref f_free) = true)
    (a_C0_served : PySem.W.findIn K (.ref C0) "_served" = some (some (.ref f_served)))
    (l_served : K.lookup f_served = some ⟨oc_served, od_served, .func (PySem.W.fnOf "_served" "Line._served" (defArgs s_served) (defBody s_served) (defScope s_served) .none kV_served dc_served pm_served an_served cd_served ct_served), sl_served⟩)
    (c_served : PySem.W.codeIn K cd_served "Line._served" = true)
    (i_served : PySem.W.isFn K (.ref f_served) = true)
    (k_served : PySem.W.keepIn K (.ref f_served) = true)
    (a_C0_waiting : PySem.W.findIn K (.ref C0) "waiting" = some (some (.ref f_waiting)))
    (l_waiting : K.lookup f_waiting = some ⟨oc_waiting, od_waiting, .func (PySem.W.fnOf "waiting" "Line.waiting" (defArgs s_waiting) (defBody s_waiting) (defScope s_waiting) .none kV_waiting dc_waiting pm_waiting an_waiting cd_waiting ct_waiting), sl_waiting⟩)
    (c_waiting : PySem.W.codeIn K cd_waiting "Line.waiting" = true)
    (i_waiting : PySem.W.isFn K (.ref f_waiting) = true)
    (k_waiting : PySem.W.keepIn K (.ref f_waiting) = true)
    (a_C0_length : PySem.W.findIn K (.ref C0) "length" = some (some (.ref p_length)))
    (g_length : PySem.W.specialIn K (.ref p_length) "__get__" = some (some (.builtin "property.__get__")))
    (t_length : PySem.W.takesIn K (.ref p_length) = some true)
    (r_lengthF : PySem.W.recIn K p_length "property" = some (.ref f_length :: r_length))
    (l_length : K.lookup f_length = some ⟨oc_length, od_length, .func (PySem.W.fnOf "length" "Line.length" (defArgs s_length) (defBody s_length) (defScope s_length) .none kV_length dc_length pm_length an_length cd_length ct_length), sl_length⟩)
    (c_length : PySem.W.codeIn K cd_length "Line.length" = true)
    (i_length : PySem.W.isFn K (.ref f_length) = true)
    (k_length : PySem.W.keepIn K (.ref f_length) = true)
    (a_C0_repr : PySem.W.findIn K (.ref C0) "__repr__" = some (some (.ref f_repr)))
    (l_repr : K.lookup f_repr = some ⟨oc_repr, od_repr, .func (PySem.W.fnOf "__repr__" "Line.__repr__" (defArgs s_repr) (defBody s_repr) (defScope s_repr) .none kV_repr dc_repr pm_repr an_repr cd_repr ct_repr), sl_repr⟩)
    (c_repr : PySem.W.codeIn K cd_repr "Line.__repr__" = true)
    (i_repr : PySem.W.isFn K (.ref f_repr) = true)
    (k_repr : PySem.W.keepIn K (.ref f_repr) = true)
    (a_C0_request : PySem.W.findIn K (.ref C0) "request" = some (some (.ref f_request)))
    (l_request : K.lookup f_request = some ⟨oc_request, od_request, .func (PySem.W.fnOf "request" "Line.request" (defArgs s_request) (defBody s_request) (defScope s_request) .none kV_request dc_request pm_request an_request cd_request ct_request), sl_request⟩)
    (c_request : PySem.W.codeIn K cd_request "Line.request" = true)
    (i_request : PySem.W.isFn K (.ref f_request) = true)
    (k_request : PySem.W.keepIn K (.ref f_request) = true)
    (a_C0_release : PySem.W.findIn K (.ref C0) "release" = some (some (.ref f_release)))
    (l_release : K.lookup f_release = some ⟨oc_release, od_release, .func (PySem.W.fnOf "release" "Line.release" (defArgs s_release) (defBody s_release) (defScope s_release) .none kV_release dc_release pm_release an_release cd_release ct_release), sl_release⟩)
    (c_release : PySem.W.codeIn K cd_release "Line.release" = true)
    (i_release : PySem.W.isFn K (.ref f_release) = true)
    (k_release : PySem.W.keepIn K (.ref f_release) = true)
    (a_C1_holders : PySem.W.findIn K (.ref C1) "holders" = some (some (.ref f_Rholders)))
    (l_Rholders : K.lookup f_Rholders = some ⟨oc_Rholders, od_Rholders, .func (PySem.W.ksFn "holders" "RankLine.holders" (defArgs s_Rholders) (defBody s_Rholders) (defScope s_Rholders) .none kV_Rholders dc_Rholders pm_Rholders an_Rholders (.ref ca_Rholders) ct_Rholders cc_Rholders), sl_Rholders⟩)
    (c_Rholders : PySem.W.codeIn K (.ref ca_Rholders) "RankLine.holders" = true)
    (m_Rholders : K.lookup ca_Rholders = some ⟨oca_Rholders, dca_Rholders, .fields vs_Rholders, sca_Rholders⟩)
    (u_Rholders : vs_Rholders[2]? = some (.str fi_Rholders tf_Rholders))
    (w_Rholders : (l.prog.main.file == fi_Rholders) = true)
    (x_Rholders : K.lookup cc_Rholders = some ⟨occ_Rholders, dcc_Rholders, .cell (some (.ref C1)), scc_Rholders⟩)
    (i_Rholders : PySem.W.isFn K (.ref f_Rholders) = true)
    (k_Rholders : PySem.W.keepIn K (.ref f_Rholders) = true)
    (a_C1_free : PySem.W.findIn K (.ref C1) "free" = some (some (.ref p_Rfree)))
    (g_Rfree : PySem.W.specialIn K (.ref p_Rfree) "__get__" = some (some (.builtin "property.__get__")))
    (t_Rfree : PySem.W.takesIn K (.ref p_Rfree) = some true)
    (r_RfreeF : PySem.W.recIn K p_Rfree "property" = some (.ref f_Rfree :: r_Rfree))
    (l_Rfree : K.lookup f_Rfree = some ⟨oc_Rfree, od_Rfree, .func (PySem.W.fnOf "free" "RankLine.free" (defArgs s_Rfree) (defBody s_Rfree) (defScope s_Rfree) .none kV_Rfree dc_Rfree pm_Rfree an_Rfree cd_Rfree ct_Rfree), sl_Rfree⟩)
    (c_Rfree : PySem.W.codeIn K cd_Rfree "RankLine.free" = true)
    (i_Rfree : PySem.W.isFn K (.ref f_Rfree) = true)
    (k_Rfree : PySem.W.keepIn K (.ref f_Rfree) = true)
    (a_C1_served : PySem.W.findIn K (.ref C1) "_served" = some (some (.ref f_Rserved)))
    (a_C2_served : PySem.W.findIn K (.ref C2) "_served" = some (some (.ref f_Rserved)))
    (l_Rserved : K.lookup f_Rserved = some ⟨oc_Rserved, od_Rserved, .func (PySem.W.ksFn "_served" "RankLine._served" (defArgs s_Rserved) (defBody s_Rserved) (defScope s_Rserved) .none kV_Rserved dc_Rserved pm_Rserved an_Rserved (.ref ca_Rserved) ct_Rserved cc_Rserved), sl_Rserved⟩)
    (c_Rserved : PySem.W.codeIn K (.ref ca_Rserved) "RankLine._served" = true)
    (m_Rserved : K.lookup ca_Rserved = some ⟨oca_Rserved, dca_Rserved, .fields vs_Rserved, sca_Rserved⟩)
    (u_Rserved : vs_Rserved[2]? = some (.str fi_Rserved tf_Rserved))
    (w_Rserved : (l.prog.main.file == fi_Rserved) = true)
    (x_Rserved : K.lookup cc_Rserved = some ⟨occ_Rserved, dcc_Rserved, .cell (some (.ref C1)), scc_Rserved⟩)
    (i_Rserved : PySem.W.isFn K (.ref f_Rserved) = true)
    (k_Rserved : PySem.W.keepIn K (.ref f_Rserved) = true)
    (a_C1_waiting : PySem.W.findIn K (.ref C1) "waiting" = some (some (.ref f_Rwaiting)))
    (l_Rwaiting : K.lookup f_Rwaiting = some ⟨oc_Rwaiting, od_Rwaiting, .func (PySem.W.ksFn "waiting" "RankLine.waiting" (defArgs s_Rwaiting) (defBody s_Rwaiting) (defScope s_Rwaiting) .none kV_Rwaiting dc_Rwaiting pm_Rwaiting an_Rwaiting (.ref ca_Rwaiting) ct_Rwaiting cc_Rwaiting), sl_Rwaiting⟩)
    (c_Rwaiting : PySem.W.codeIn K (.ref ca_Rwaiting) "RankLine.waiting" = true)
    (m_Rwaiting : K.lookup ca_Rwaiting = some ⟨oca_Rwaiting, dca_Rwaiting, .fields vs_Rwaiting, sca_Rwaiting⟩)
    (u_Rwaiting : vs_Rwaiting[2]? = some (.str fi_Rwaiting tf_Rwaiting))
    (w_Rwaiting : (l.prog.main.file == fi_Rwaiting) = true)
    (x_Rwaiting : K.lookup cc_Rwaiting = some ⟨occ_Rwaiting, dcc_Rwaiting, .cell (some (.ref C1)), scc_Rwaiting⟩)
    (i_Rwaiting : PySem.W.isFn K (.ref f_Rwaiting) = true)
    (k_Rwaiting : PySem.W.keepIn K (.ref f_Rwaiting) = true)
    (a_C1_length : PySem.W.findIn K (.ref C1) "length" = some (some (.ref p_Rlength)))
    (g_Rlength : PySem.W.specialIn K (.ref p_Rlength) "__get__" = some (some (.builtin "property.__get__")))
    (t_Rlength : PySem.W.takesIn K (.ref p_Rlength) = some true)
    (r_RlengthF : PySem.W.recIn K p_Rlength "property" = some (.ref f_Rlength :: r_Rlength))
    (l_Rlength : K.lookup f_Rlength = some ⟨oc_Rlength, od_Rlength, .func (PySem.W.fnOf "length" "RankLine.length" (defArgs s_Rlength) (defBody s_Rlength) (defScope s_Rlength) .none kV_Rlength dc_Rlength pm_Rlength an_Rlength cd_Rlength ct_Rlength), sl_Rlength⟩)
    (c_Rlength : PySem.W.codeIn K cd_Rlength "RankLine.length" = true)
    (i_Rlength : PySem.W.isFn K (.ref f_Rlength) = true)
    (k_Rlength : PySem.W.keepIn K (.ref f_Rlength) = true)
    (a_C1_repr : PySem.W.findIn K (.ref C1) "__repr__" = some (some (.ref f_Rrepr)))
    (l_Rrepr : K.lookup f_Rrepr = some ⟨oc_Rrepr, od_Rrepr, .func (PySem.W.fnOf "__repr__" "RankLine.__repr__" (defArgs s_Rrepr) (defBody s_Rrepr) (defScope s_Rrepr) .none kV_Rrepr dc_Rrepr pm_Rrepr an_Rrepr cd_Rrepr ct_Rrepr), sl_Rrepr⟩)
    (c_Rrepr : PySem.W.codeIn K cd_Rrepr "RankLine.__repr__" = true)
    (i_Rrepr : PySem.W.isFn K (.ref f_Rrepr) = true)
    (k_Rrepr : PySem.W.keepIn K (.ref f_Rrepr) = true)
    (a_C1_request : PySem.W.findIn K (.ref C1) "request" = some (some (.ref f_Rrequest)))
    (l_Rrequest : K.lookup f_Rrequest = some ⟨oc_Rrequest, od_Rrequest, .func (PySem.W.ksFn "request" "RankLine.request" (defArgs s_Rrequest) (defBody s_Rrequest) (defScope s_Rrequest) .none kV_Rrequest dc_Rrequest pm_Rrequest an_Rrequest (.ref ca_Rrequest) ct_Rrequest cc_Rrequest), sl_Rrequest⟩)
    (c_Rrequest : PySem.W.codeIn K (.ref ca_Rrequest) "RankLine.request" = true)
    (m_Rrequest : K.lookup ca_Rrequest = some ⟨oca_Rrequest, dca_Rrequest, .fields vs_Rrequest, sca_Rrequest⟩)
    (u_Rrequest : vs_Rrequest[2]? = some (.str fi_Rrequest tf_Rrequest))
    (w_Rrequest : (l.prog.main.file == fi_Rrequest) = true)
    (x_Rrequest : K.lookup cc_Rrequest = some ⟨occ_Rrequest, dcc_Rrequest, .cell (some (.ref C1)), scc_Rrequest⟩)
    (i_Rrequest : PySem.W.isFn K (.ref f_Rrequest) = true)
    (k_Rrequest : PySem.W.keepIn K (.ref f_Rrequest) = true)
    (a_C1_release : PySem.W.findIn K (.ref C1) "release" = some (some (.ref f_Rrelease)))
    (l_Rrelease : K.lookup f_Rrelease = some ⟨oc_Rrelease, od_Rrelease, .func (PySem.W.ksFn "release" "RankLine.release" (defArgs s_Rrelease) (defBody s_Rrelease) (defScope s_Rrelease) .none kV_Rrelease dc_Rrelease pm_Rrelease an_Rrelease (.ref ca_Rrelease) ct_Rrelease cc_Rrelease), sl_Rrelease⟩)
    (c_Rrelease : PySem.W.codeIn K (.ref ca_Rrelease) "RankLine.release" = true)
    (m_Rrelease : K.lookup ca_Rrelease = some ⟨oca_Rrelease, dca_Rrelease, .fields vs_Rrelease, sca_Rrelease⟩)
    (u_Rrelease : vs_Rrelease[2]? = some (.str fi_Rrelease tf_Rrelease))
    (w_Rrelease : (l.prog.main.file == fi_Rrelease) = true)
    (x_Rrelease : K.lookup cc_Rrelease = some ⟨occ_Rrelease, dcc_Rrelease, .cell (some (.ref C1)), scc_Rrelease⟩)
    (i_Rrelease : PySem.W.isFn K (.ref f_Rrelease) = true)
    (k_Rrelease : PySem.W.keepIn K (.ref f_Rrelease) = true)
    (a_C2_holders : PySem.W.findIn K (.ref C2) "holders" = some (some (.ref f_Pholders)))
    (l_Pholders : K.lookup f_Pholders = some ⟨oc_Pholders, od_Pholders, .func (PySem.W.ksFn "holders" "PreemptLine.holders" (defArgs s_Pholders) (defBody s_Pholders) (defScope s_Pholders) .none kV_Pholders dc_Pholders pm_Pholders an_Pholders (.ref ca_Pholders) ct_Pholders cc_Pholders), sl_Pholders⟩)
    (c_Pholders : PySem.W.codeIn K (.ref ca_Pholders) "PreemptLine.holders" = true)
    (m_Pholders : K.lookup ca_Pholders = some ⟨oca_Pholders, dca_Pholders, .fields vs_Pholders, sca_Pholders⟩)
    (u_Pholders : vs_Pholders[2]? = some (.str fi_Pholders tf_Pholders))
    (w_Pholders : (l.prog.main.file == fi_Pholders) = true)
    (x_Pholders : K.lookup cc_Pholders = some ⟨occ_Pholders, dcc_Pholders, .cell (some (.ref C2)), scc_Pholders⟩)
    (i_Pholders : PySem.W.isFn K (.ref f_Pholders) = true)
    (k_Pholders : PySem.W.keepIn K (.ref f_Pholders) = true)
    (a_C2_free : PySem.W.findIn K (.ref C2) "free" = some (some (.ref p_Pfree)))
    (g_Pfree : PySem.W.specialIn K (.ref p_Pfree) "__get__" = some (some (.builtin "property.__get__")))
    (t_Pfree : PySem.W.takesIn K (.ref p_Pfree) = some true)
    (r_PfreeF : PySem.W.recIn K p_Pfree "property" = some (.ref f_Pfree :: r_Pfree))
    (l_Pfree : K.lookup f_Pfree = some ⟨oc_Pfree, od_Pfree, .func (PySem.W.fnOf "free" "PreemptLine.free" (defArgs s_Pfree) (defBody s_Pfree) (defScope s_Pfree) .none kV_Pfree dc_Pfree pm_Pfree an_Pfree cd_Pfree ct_Pfree), sl_Pfree⟩)
    (c_Pfree : PySem.W.codeIn K cd_Pfree "PreemptLine.free" = true)
    (i_Pfree : PySem.W.isFn K (.ref f_Pfree) = true)
    (k_Pfree : PySem.W.keepIn K (.ref f_Pfree) = true)
    (a_C2_waiting : PySem.W.findIn K (.ref C2) "waiting" = some (some (.ref f_Pwaiting)))
    (l_Pwaiting : K.lookup f_Pwaiting = some ⟨oc_Pwaiting, od_Pwaiting, .func (PySem.W.ksFn "waiting" "PreemptLine.waiting" (defArgs s_Pwaiting) (defBody s_Pwaiting) (defScope s_Pwaiting) .none kV_Pwaiting dc_Pwaiting pm_Pwaiting an_Pwaiting (.ref ca_Pwaiting) ct_Pwaiting cc_Pwaiting), sl_Pwaiting⟩)
    (c_Pwaiting : PySem.W.codeIn K (.ref ca_Pwaiting) "PreemptLine.waiting" = true)
    (m_Pwaiting : K.lookup ca_Pwaiting = some ⟨oca_Pwaiting, dca_Pwaiting, .fields vs_Pwaiting, sca_Pwaiting⟩)
    (u_Pwaiting : vs_Pwaiting[2]? = some (.str fi_Pwaiting tf_Pwaiting))
    (w_Pwaiting : (l.prog.main.file == fi_Pwaiting) = true)
    (x_Pwaiting : K.lookup cc_Pwaiting = some ⟨occ_Pwaiting, dcc_Pwaiting, .cell (some (.ref C2)), scc_Pwaiting⟩)
    (i_Pwaiting : PySem.W.isFn K (.ref f_Pwaiting) = true)
    (k_Pwaiting : PySem.W.keepIn K (.ref f_Pwaiting) = true)
    (a_C2_length : PySem.W.findIn K (.ref C2) "length" = some (some (.ref p_Plength)))
    (g_Plength : PySem.W.specialIn K (.ref p_Plength) "__get__" = some (some (.builtin "property.__get__")))
    (t_Plength : PySem.W.takesIn K (.ref p_Plength) = some true)
    (r_PlengthF : PySem.W.recIn K p_Plength "property" = some (.ref f_Plength :: r_Plength))
    (l_Plength : K.lookup f_Plength = some ⟨oc_Plength, od_Plength, .func (PySem.W.fnOf "length" "PreemptLine.length" (defArgs s_Plength) (defBody s_Plength) (defScope s_Plength) .none kV_Plength dc_Plength pm_Plength an_Plength cd_Plength ct_Plength), sl_Plength⟩)
    (c_Plength : PySem.W.codeIn K cd_Plength "PreemptLine.length" = true)
    (i_Plength : PySem.W.isFn K (.ref f_Plength) = true)
    (k_Plength : PySem.W.keepIn K (.ref f_Plength) = true)
    (a_C2_repr : PySem.W.findIn K (.ref C2) "__repr__" = some (some (.ref f_Prepr)))
    (l_Prepr : K.lookup f_Prepr = some ⟨oc_Prepr, od_Prepr, .func (PySem.W.fnOf "__repr__" "PreemptLine.__repr__" (defArgs s_Prepr) (defBody s_Prepr) (defScope s_Prepr) .none kV_Prepr dc_Prepr pm_Prepr an_Prepr cd_Prepr ct_Prepr), sl_Prepr⟩)
    (c_Prepr : PySem.W.codeIn K cd_Prepr "PreemptLine.__repr__" = true)
    (i_Prepr : PySem.W.isFn K (.ref f_Prepr) = true)
    (k_Prepr : PySem.W.keepIn K (.ref f_Prepr) = true)
    (a_C2_request : PySem.W.findIn K (.ref C2) "request" = some (some (.ref f_Prequest)))
    (l_Prequest : K.lookup f_Prequest = some ⟨oc_Prequest, od_Prequest, .func (PySem.W.ksFn "request" "PreemptLine.request" (defArgs s_Prequest) (defBody s_Prequest) (defScope s_Prequest) .none kV_Prequest dc_Prequest pm_Prequest an_Prequest (.ref ca_Prequest) ct_Prequest cc_Prequest), sl_Prequest⟩)
    (c_Prequest : PySem.W.codeIn K (.ref ca_Prequest) "PreemptLine.request" = true)
    (m_Prequest : K.lookup ca_Prequest = some ⟨oca_Prequest, dca_Prequest, .fields vs_Prequest, sca_Prequest⟩)
    (u_Prequest : vs_Prequest[2]? = some (.str fi_Prequest tf_Prequest))
    (w_Prequest : (l.prog.main.file == fi_Prequest) = true)
    (x_Prequest : K.lookup cc_Prequest = some ⟨occ_Prequest, dcc_Prequest, .cell (some (.ref C2)), scc_Prequest⟩)
    (i_Prequest : PySem.W.isFn K (.ref f_Prequest) = true)
    (k_Prequest : PySem.W.keepIn K (.ref f_Prequest) = true)
    (a_C2_release : PySem.W.findIn K (.ref C2) "release" = some (some (.ref f_Prelease)))
    (l_Prelease : K.lookup f_Prelease = some ⟨oc_Prelease, od_Prelease, .func (PySem.W.ksFn "release" "PreemptLine.release" (defArgs s_Prelease) (defBody s_Prelease) (defScope s_Prelease) .none kV_Prelease dc_Prelease pm_Prelease an_Prelease (.ref ca_Prelease) ct_Prelease cc_Prelease), sl_Prelease⟩)
    (c_Prelease : PySem.W.codeIn K (.ref ca_Prelease) "PreemptLine.release" = true)
    (m_Prelease : K.lookup ca_Prelease = some ⟨oca_Prelease, dca_Prelease, .fields vs_Prelease, sca_Prelease⟩)
    (u_Prelease : vs_Prelease[2]? = some (.str fi_Prelease tf_Prelease))
    (w_Prelease : (l.prog.main.file == fi_Prelease) = true)
    (x_Prelease : K.lookup cc_Prelease = some ⟨occ_Prelease, dcc_Prelease, .cell (some (.ref C2)), scc_Prelease⟩)
    (i_Prelease : PySem.W.isFn K (.ref f_Prelease) = true)
    (k_Prelease : PySem.W.keepIn K (.ref f_Prelease) = true)
    (a_are_alike : PySem.W.nsIn K mainGlobals "_are_alike" = some (some (.ref f_are_alike)))
    (l_are_alike : K.lookup f_are_alike = some ⟨oc_are_alike, od_are_alike, .func (PySem.W.fnOf "_are_alike" "_are_alike" (defArgs s_are_alike) (defBody s_are_alike) (defScope s_are_alike) .none kV_are_alike dc_are_alike pm_are_alike an_are_alike cd_are_alike ct_are_alike), sl_are_alike⟩)
    (c_are_alike : PySem.W.codeIn K cd_are_alike "_are_alike" = true)
    (k_are_alike : PySem.W.keepIn K (.ref f_are_alike) = true)
    (a_C0_eq : PySem.W.findIn K (.ref C0) "__eq__" = some (some (.ref f_eq)))
    (l_eq : K.lookup f_eq = some ⟨oc_eq, od_eq, .func (PySem.W.fnOf "__eq__" "Line.__eq__" (defArgs s_eq) (defBody s_eq) (defScope s_eq) .none kV_eq dc_eq pm_eq an_eq cd_eq ct_eq), sl_eq⟩)
    (c_eq : PySem.W.codeIn K cd_eq "Line.__eq__" = true)
    (i_eq : PySem.W.isFn K (.ref f_eq) = true)
    (k_eq : PySem.W.keepIn K (.ref f_eq) = true)
    (a_C1_eq : PySem.W.findIn K (.ref C1) "__eq__" = some (some (.ref f_Req)))
    (l_Req : K.lookup f_Req = some ⟨oc_Req, od_Req, .func (PySem.W.fnOf "__eq__" "RankLine.__eq__" (defArgs s_Req) (defBody s_Req) (defScope s_Req) .none kV_Req dc_Req pm_Req an_Req cd_Req ct_Req), sl_Req⟩)
    (c_Req : PySem.W.codeIn K cd_Req "RankLine.__eq__" = true)
    (i_Req : PySem.W.isFn K (.ref f_Req) = true)
    (k_Req : PySem.W.keepIn K (.ref f_Req) = true)
    (a_C2_eq : PySem.W.findIn K (.ref C2) "__eq__" = some (some (.ref f_Peq)))
    (l_Peq : K.lookup f_Peq = some ⟨oc_Peq, od_Peq, .func (PySem.W.fnOf "__eq__" "PreemptLine.__eq__" (defArgs s_Peq) (defBody s_Peq) (defScope s_Peq) .none kV_Peq dc_Peq pm_Peq an_Peq cd_Peq ct_Peq), sl_Peq⟩)
    (c_Peq : PySem.W.codeIn K cd_Peq "PreemptLine.__eq__" = true)
    (i_Peq : PySem.W.isFn K (.ref f_Peq) = true)
    (k_Peq : PySem.W.keepIn K (.ref f_Peq) = true)
    (a_law_cell_at : PySem.W.nsIn K mainGlobals "_law_cell_at" = some (some (.ref f_law_cell_at)))
    (l_law_cell_at : K.lookup f_law_cell_at = some ⟨oc_law_cell_at, od_law_cell_at, .func (PySem.W.fnOf "_law_cell_at" "_law_cell_at" (defArgs s_law_cell_at) (defBody s_law_cell_at) (defScope s_law_cell_at) .none kV_law_cell_at dc_law_cell_at pm_law_cell_at an_law_cell_at cd_law_cell_at ct_law_cell_at), sl_law_cell_at⟩)
    (c_law_cell_at : PySem.W.codeIn K cd_law_cell_at "_law_cell_at" = true)
    (k_law_cell_at : PySem.W.keepIn K (.ref f_law_cell_at) = true)
    (a_law_pen : PySem.W.nsIn K mainGlobals "_law_pen" = some (some (.ref f_law_pen)))
    (l_law_pen : K.lookup f_law_pen = some ⟨oc_law_pen, od_law_pen, .func (PySem.W.fnOf "_law_pen" "_law_pen" (defArgs s_law_pen) (defBody s_law_pen) (defScope s_law_pen) .none kV_law_pen dc_law_pen pm_law_pen an_law_pen cd_law_pen ct_law_pen), sl_law_pen⟩)
    (c_law_pen : PySem.W.codeIn K cd_law_pen "_law_pen" = true)
    (k_law_pen : PySem.W.keepIn K (.ref f_law_pen) = true)
    (a_law_draw : PySem.W.nsIn K mainGlobals "_law_draw" = some (some (.ref f_law_draw)))
    (l_law_draw : K.lookup f_law_draw = some ⟨oc_law_draw, od_law_draw, .func (PySem.W.fnOf "_law_draw" "_law_draw" (defArgs s_law_draw) (defBody s_law_draw) (defScope s_law_draw) .none kV_law_draw dc_law_draw pm_law_draw an_law_draw cd_law_draw ct_law_draw), sl_law_draw⟩)
    (c_law_draw : PySem.W.codeIn K cd_law_draw "_law_draw" = true)
    (k_law_draw : PySem.W.keepIn K (.ref f_law_draw) = true)
    (a_law_same : PySem.W.nsIn K mainGlobals "_law_same" = some (some (.ref f_law_same)))
    (l_law_same : K.lookup f_law_same = some ⟨oc_law_same, od_law_same, .func (PySem.W.fnOf "_law_same" "_law_same" (defArgs s_law_same) (defBody s_law_same) (defScope s_law_same) .none kV_law_same dc_law_same pm_law_same an_law_same cd_law_same ct_law_same), sl_law_same⟩)
    (c_law_same : PySem.W.codeIn K cd_law_same "_law_same" = true)
    (k_law_same : PySem.W.keepIn K (.ref f_law_same) = true)
    (a_law_made : PySem.W.nsIn K mainGlobals "_law_made" = some (some (.ref f_law_made)))
    (l_law_made : K.lookup f_law_made = some ⟨oc_law_made, od_law_made, .func (PySem.W.fnOf "_law_made" "_law_made" (defArgs s_law_made) (defBody s_law_made) (defScope s_law_made) .none kV_law_made dc_law_made pm_law_made an_law_made cd_law_made ct_law_made), sl_law_made⟩)
    (c_law_made : PySem.W.codeIn K cd_law_made "_law_made" = true)
    (k_law_made : PySem.W.keepIn K (.ref f_law_made) = true)
    (a_law_request : PySem.W.nsIn K mainGlobals "_law_request" = some (some (.ref f_law_request)))
    (l_law_request : K.lookup f_law_request = some ⟨oc_law_request, od_law_request, .func (PySem.W.fnOf "_law_request" "_law_request" (defArgs s_law_request) (defBody s_law_request) (defScope s_law_request) .none kV_law_request dc_law_request pm_law_request an_law_request cd_law_request ct_law_request), sl_law_request⟩)
    (c_law_request : PySem.W.codeIn K cd_law_request "_law_request" = true)
    (k_law_request : PySem.W.keepIn K (.ref f_law_request) = true)
    (a_law_key : PySem.W.nsIn K mainGlobals "_law_key" = some (some (.ref f_law_key)))
    (l_law_key : K.lookup f_law_key = some ⟨oc_law_key, od_law_key, .func (PySem.W.fnOf "_law_key" "_law_key" (defArgs s_law_key) (defBody s_law_key) (defScope s_law_key) .none kV_law_key dc_law_key pm_law_key an_law_key cd_law_key ct_law_key), sl_law_key⟩)
    (c_law_key : PySem.W.codeIn K cd_law_key "_law_key" = true)
    (k_law_key : PySem.W.keepIn K (.ref f_law_key) = true)
    (a_law_written : PySem.W.nsIn K mainGlobals "_law_written" = some (some (.ref f_law_written)))
    (l_law_written : K.lookup f_law_written = some ⟨oc_law_written, od_law_written, .func (PySem.W.fnOf "_law_written" "_law_written" (defArgs s_law_written) (defBody s_law_written) (defScope s_law_written) .none kV_law_written dc_law_written pm_law_written an_law_written cd_law_written ct_law_written), sl_law_written⟩)
    (c_law_written : PySem.W.codeIn K cd_law_written "_law_written" = true)
    (k_law_written : PySem.W.keepIn K (.ref f_law_written) = true)
    (a_law_is_kind : PySem.W.nsIn K mainGlobals "_law_is_kind" = some (some (.ref f_law_is_kind)))
    (l_law_is_kind : K.lookup f_law_is_kind = some ⟨oc_law_is_kind, od_law_is_kind, .func (PySem.W.fnOf "_law_is_kind" "_law_is_kind" (defArgs s_law_is_kind) (defBody s_law_is_kind) (defScope s_law_is_kind) .none kV_law_is_kind dc_law_is_kind pm_law_is_kind an_law_is_kind cd_law_is_kind ct_law_is_kind), sl_law_is_kind⟩)
    (c_law_is_kind : PySem.W.codeIn K cd_law_is_kind "_law_is_kind" = true)
    (k_law_is_kind : PySem.W.keepIn K (.ref f_law_is_kind) = true)
    (a_law : PySem.W.nsIn K mainGlobals "law" = some (some (.ref f_law)))
    (l_law : K.lookup f_law = some ⟨oc_law, od_law, .func (PySem.W.fnOf "law" "law" (defArgs s_law) (defBody s_law) (defScope s_law) .none kV_law dc_law pm_law an_law cd_law ct_law), sl_law⟩)
    (c_law : PySem.W.codeIn K cd_law "law" = true)
    (k_law : PySem.W.keepIn K (.ref f_law) = true)
    (u_C1_C1_holders : PySem.W.ks_superIn K C1 C1 "holders" = some (some (.ref f_holders)))
    (mro_C1_C1 : PySem.W.mroIn K C1 (.ref C1) = some true)
    (fn_holders : PySem.W.fnIn K f_holders = true)
    (ty_holders : PySem.W.typeIn K (.ref f_holders) = some (.type "function"))
    (u_C2_C1_holders : PySem.W.ks_superIn K C2 C1 "holders" = some (some (.ref f_holders)))
    (mro_C2_C1 : PySem.W.mroIn K C2 (.ref C1) = some true)
    (u_C1_C1_served : PySem.W.ks_superIn K C1 C1 "_served" = some (some (.ref f_served)))
    (fn_served : PySem.W.fnIn K f_served = true)
    (ty_served : PySem.W.typeIn K (.ref f_served) = some (.type "function"))
    (u_C2_C1_served : PySem.W.ks_superIn K C2 C1 "_served" = some (some (.ref f_served)))
    (u_C1_C1_waiting : PySem.W.ks_superIn K C1 C1 "waiting" = some (some (.ref f_waiting)))
    (fn_waiting : PySem.W.fnIn K f_waiting = true)
    (ty_waiting : PySem.W.typeIn K (.ref f_waiting) = some (.type "function"))
    (u_C2_C1_waiting : PySem.W.ks_superIn K C2 C1 "waiting" = some (some (.ref f_waiting)))
    (u_C1_C1_request : PySem.W.ks_superIn K C1 C1 "request" = some (some (.ref f_request)))
    (fn_request : PySem.W.fnIn K f_request = true)
    (ty_request : PySem.W.typeIn K (.ref f_request) = some (.type "function"))
    (u_C2_C1_request : PySem.W.ks_superIn K C2 C1 "request" = some (some (.ref f_request)))
    (u_C1_C1_release : PySem.W.ks_superIn K C1 C1 "release" = some (some (.ref f_release)))
    (fn_release : PySem.W.fnIn K f_release = true)
    (ty_release : PySem.W.typeIn K (.ref f_release) = some (.type "function"))
    (u_C2_C1_release : PySem.W.ks_superIn K C2 C1 "release" = some (some (.ref f_release)))
    (u_C2_C2_holders : PySem.W.ks_superIn K C2 C2 "holders" = some (some (.ref f_Rholders)))
    (mro_C2_C2 : PySem.W.mroIn K C2 (.ref C2) = some true)
    (fn_Rholders : PySem.W.fnIn K f_Rholders = true)
    (ty_Rholders : PySem.W.typeIn K (.ref f_Rholders) = some (.type "function"))
    (u_C2_C2_waiting : PySem.W.ks_superIn K C2 C2 "waiting" = some (some (.ref f_Rwaiting)))
    (fn_Rwaiting : PySem.W.fnIn K f_Rwaiting = true)
    (ty_Rwaiting : PySem.W.typeIn K (.ref f_Rwaiting) = some (.type "function"))
    (u_C2_C2_request : PySem.W.ks_superIn K C2 C2 "request" = some (some (.ref f_Rrequest)))
    (fn_Rrequest : PySem.W.fnIn K f_Rrequest = true)
    (ty_Rrequest : PySem.W.typeIn K (.ref f_Rrequest) = some (.type "function"))
    (u_C2_C2_release : PySem.W.ks_superIn K C2 C2 "release" = some (some (.ref f_Rrelease)))
    (fn_Rrelease : PySem.W.fnIn K f_Rrelease = true)
    (ty_Rrelease : PySem.W.typeIn K (.ref f_Rrelease) = some (.type "function"))
    (nosup : (l.prog.main.scope.names.lookup ("super" : Str)).isSome = false)
    (opq : PySem.W.nsIn K cStatics "thirdparty.any" = some none)
    : ∃ fd : FuncData, (∀ (s : Shared) (v : Value), BindsTo s fd ⟨[v], []⟩ [("_law_script", v)]) ∧ ∀ base : Heap, K.In base → base.Ns mainGlobals mg → FnD l.prog w K mg base 12 fa fd ["_law_script"] dLaw := by
  have e := hfa.symm.trans (PySem.W.mg_of X G a_law)
  cases e
  have F_is_between := fun_mk (st := s_is_between) l_is_between c_is_between k_is_between
  have B_is_between := F_is_between.binds (ps := ["thing", "low", "high"]) fun _ _ _ _ _ _ us hl => match us, hl with | [_, _, _], _ => rfl
  have F_check_number := fun_mk (st := s_check_number) l_check_number c_check_number k_check_number
  have B_check_number := F_check_number.binds (ps := ["thing", "low", "high", "name"]) fun _ _ _ _ _ _ us hl => match us, hl with | [_, _, _, _], _ => rfl
  have F_check_process := fun_mk (st := s_check_process) l_check_process c_check_process k_check_process
  have B_check_process := F_check_process.binds (ps := ["process"]) fun _ _ _ _ _ _ us hl => match us, hl with | [_], _ => rfl
  have F_check_rank := fun_mk (st := s_check_rank) l_check_rank c_check_rank k_check_rank
  have B_check_rank := F_check_rank.binds (ps := ["rank"]) fun _ _ _ _ _ _ us hl => match us, hl with | [_], _ => rfl
  have F_init := fun_mk (st := s_init) l_init c_init k_init
  have B_init := F_init.binds (ps := ["self", "units"]) fun _ _ _ _ _ _ us hl => match us, hl with | [_, _], _ => rfl
  have F_holders := fun_mk (st := s_holders) l_holders c_holders k_holders
  have B_holders := F_holders.binds (ps := ["self"]) fun _ _ _ _ _ _ us hl => match us, hl with | [_], _ => rfl
  have F_free := fun_mk (st := s_free) l_free c_free k_free
  have B_free := F_free.binds (ps := ["self"]) fun _ _ _ _ _ _ us hl => match us, hl with | [_], _ => rfl
  have F_served := fun_mk (st := s_served) l_served c_served k_served
  have B_served := F_served.binds (ps := ["self"]) fun _ _ _ _ _ _ us hl => match us, hl with | [_], _ => rfl
  have F_waiting := fun_mk (st := s_waiting) l_waiting c_waiting k_waiting
  have B_waiting := F_waiting.binds (ps := ["self"]) fun _ _ _ _ _ _ us hl => match us, hl with | [_], _ => rfl
  have F_length := fun_mk (st := s_length) l_length c_length k_length
  have B_length := F_length.binds (ps := ["self"]) fun _ _ _ _ _ _ us hl => match us, hl with | [_], _ => rfl
  have F_repr := fun_mk (st := s_repr) l_repr c_repr k_repr
  have B_repr := F_repr.binds (ps := ["self"]) fun _ _ _ _ _ _ us hl => match us, hl with | [_], _ => rfl
  have F_request := fun_mk (st := s_request) l_request c_request k_request
  have B_request := F_request.binds (ps := ["self", "process", "rank"]) fun _ _ _ _ _ _ us hl => match us, hl with | [_, _, _], _ => rfl
  have F_release := fun_mk (st := s_release) l_release c_release k_release
  have B_release := F_release.binds (ps := ["self", "process"]) fun _ _ _ _ _ _ us hl => match us, hl with | [_, _], _ => rfl
  have F_Rholders : SFun l.prog K "holders" "RankLine.holders" s_Rholders f_Rholders _ (.ref ca_Rholders) cc_Rholders C1 := ⟨⟨_, _, _, _, _, _, _, _, rfl, l_Rholders, c_Rholders⟩, k_Rholders, ⟨⟨_, _, _, l_Rholders⟩, ⟨_, rfl, rfl⟩, ⟨_, _, _, _, _, rfl, m_Rholders, rfl, u_Rholders, w_Rholders⟩, ⟨_, x_Rholders, rfl⟩, nosup⟩⟩
  have B_Rholders := F_Rholders.binds (ps := ["self"]) fun _ _ _ _ _ us hl => match us, hl with | [_], _ => rfl
  have F_Rfree := fun_mk (st := s_Rfree) l_Rfree c_Rfree k_Rfree
  have B_Rfree := F_Rfree.binds (ps := ["self"]) fun _ _ _ _ _ _ us hl => match us, hl with | [_], _ => rfl
  have F_Rserved : SFun l.prog K "_served" "RankLine._served" s_Rserved f_Rserved _ (.ref ca_Rserved) cc_Rserved C1 := ⟨⟨_, _, _, _, _, _, _, _, rfl, l_Rserved, c_Rserved⟩, k_Rserved, ⟨⟨_, _, _, l_Rserved⟩, ⟨_, rfl, rfl⟩, ⟨_, _, _, _, _, rfl, m_Rserved, rfl, u_Rserved, w_Rserved⟩, ⟨_, x_Rserved, rfl⟩, nosup⟩⟩
  have B_Rserved := F_Rserved.binds (ps := ["self"]) fun _ _ _ _ _ us hl => match us, hl with | [_], _ => rfl
  have F_Rwaiting : SFun l.prog K "waiting" "RankLine.waiting" s_Rwaiting f_Rwaiting _ (.ref ca_Rwaiting) cc_Rwaiting C1 := ⟨⟨_, _, _, _, _, _, _, _, rfl, l_Rwaiting, c_Rwaiting⟩, k_Rwaiting, ⟨⟨_, _, _, l_Rwaiting⟩, ⟨_, rfl, rfl⟩, ⟨_, _, _, _, _, rfl, m_Rwaiting, rfl, u_Rwaiting, w_Rwaiting⟩, ⟨_, x_Rwaiting, rfl⟩, nosup⟩⟩
  have B_Rwaiting := F_Rwaiting.binds (ps := ["self"]) fun _ _ _ _ _ us hl => match us, hl with | [_], _ => rfl
  have F_Rlength := fun_mk (st := s_Rlength) l_Rlength c_Rlength k_Rlength
  have B_Rlength := F_Rlength.binds (ps := ["self"]) fun _ _ _ _ _ _ us hl => match us, hl with | [_], _ => rfl
  have F_Rrepr := fun_mk (st := s_Rrepr) l_Rrepr c_Rrepr k_Rrepr
  have B_Rrepr := F_Rrepr.binds (ps := ["self"]) fun _ _ _ _ _ _ us hl => match us, hl with | [_], _ => rfl
  have F_Rrequest : SFun l.prog K "request" "RankLine.request" s_Rrequest f_Rrequest _ (.ref ca_Rrequest) cc_Rrequest C1 := ⟨⟨_, _, _, _, _, _, _, _, rfl, l_Rrequest, c_Rrequest⟩, k_Rrequest, ⟨⟨_, _, _, l_Rrequest⟩, ⟨_, rfl, rfl⟩, ⟨_, _, _, _, _, rfl, m_Rrequest, rfl, u_Rrequest, w_Rrequest⟩, ⟨_, x_Rrequest, rfl⟩, nosup⟩⟩
  have B_Rrequest := F_Rrequest.binds (ps := ["self", "process", "rank"]) fun _ _ _ _ _ us hl => match us, hl with | [_, _, _], _ => rfl
  have F_Rrelease : SFun l.prog K "release" "RankLine.release" s_Rrelease f_Rrelease _ (.ref ca_Rrelease) cc_Rrelease C1 := ⟨⟨_, _, _, _, _, _, _, _, rfl, l_Rrelease, c_Rrelease⟩, k_Rrelease, ⟨⟨_, _, _, l_Rrelease⟩, ⟨_, rfl, rfl⟩, ⟨_, _, _, _, _, rfl, m_Rrelease, rfl, u_Rrelease, w_Rrelease⟩, ⟨_, x_Rrelease, rfl⟩, nosup⟩⟩
  have B_Rrelease := F_Rrelease.binds (ps := ["self", "process"]) fun _ _ _ _ _ us hl => match us, hl with | [_, _], _ => rfl
  have F_Pholders : SFun l.prog K "holders" "PreemptLine.holders" s_Pholders f_Pholders _ (.ref ca_Pholders) cc_Pholders C2 := ⟨⟨_, _, _, _, _, _, _, _, rfl, l_Pholders, c_Pholders⟩, k_Pholders, ⟨⟨_, _, _, l_Pholders⟩, ⟨_, rfl, rfl⟩, ⟨_, _, _, _, _, rfl, m_Pholders, rfl, u_Pholders, w_Pholders⟩, ⟨_, x_Pholders, rfl⟩, nosup⟩⟩
  have B_Pholders := F_Pholders.binds (ps := ["self"]) fun _ _ _ _ _ us hl => match us, hl with | [_], _ => rfl
  have F_Pfree := fun_mk (st := s_Pfree) l_Pfree c_Pfree k_Pfree
  have B_Pfree := F_Pfree.binds (ps := ["self"]) fun _ _ _ _ _ _ us hl => match us, hl with | [_], _ => rfl
  have F_Pwaiting : SFun l.prog K "waiting" "PreemptLine.waiting" s_Pwaiting f_Pwaiting _ (.ref ca_Pwaiting) cc_Pwaiting C2 := ⟨⟨_, _, _, _, _, _, _, _, rfl, l_Pwaiting, c_Pwaiting⟩, k_Pwaiting, ⟨⟨_, _, _, l_Pwaiting⟩, ⟨_, rfl, rfl⟩, ⟨_, _, _, _, _, rfl, m_Pwaiting, rfl, u_Pwaiting, w_Pwaiting⟩, ⟨_, x_Pwaiting, rfl⟩, nosup⟩⟩
  have B_Pwaiting := F_Pwaiting.binds (ps := ["self"]) fun _ _ _ _ _ us hl => match us, hl with | [_], _ => rfl
  have F_Plength := fun_mk (st := s_Plength) l_Plength c_Plength k_Plength
  have B_Plength := F_Plength.binds (ps := ["self"]) fun _ _ _ _ _ _ us hl => match us, hl with | [_], _ => rfl
  have F_Prepr := fun_mk (st := s_Prepr) l_Prepr c_Prepr k_Prepr
  have B_Prepr := F_Prepr.binds (ps := ["self"]) fun _ _ _ _ _ _ us hl => match us, hl with | [_], _ => rfl
  have F_Prequest : SFun l.prog K "request" "PreemptLine.request" s_Prequest f_Prequest _ (.ref ca_Prequest) cc_Prequest C2 := ⟨⟨_, _, _, _, _, _, _, _, rfl, l_Prequest, c_Prequest⟩, k_Prequest, ⟨⟨_, _, _, l_Prequest⟩, ⟨_, rfl, rfl⟩, ⟨_, _, _, _, _, rfl, m_Prequest, rfl, u_Prequest, w_Prequest⟩, ⟨_, x_Prequest, rfl⟩, nosup⟩⟩
  have B_Prequest := F_Prequest.binds (ps := ["self", "process", "rank"]) fun _ _ _ _ _ us hl => match us, hl with | [_, _, _], _ => rfl
  have F_Prelease : SFun l.prog K "release" "PreemptLine.release" s_Prelease f_Prelease _ (.ref ca_Prelease) cc_Prelease C2 := ⟨⟨_, _, _, _, _, _, _, _, rfl, l_Prelease, c_Prelease⟩, k_Prelease, ⟨⟨_, _, _, l_Prelease⟩, ⟨_, rfl, rfl⟩, ⟨_, _, _, _, _, rfl, m_Prelease, rfl, u_Prelease, w_Prelease⟩, ⟨_, x_Prelease, rfl⟩, nosup⟩⟩
  have B_Prelease := F_Prelease.binds (ps := ["self", "process"]) fun _ _ _ _ _ us hl => match us, hl with | [_, _], _ => rfl
  have F_are_alike := fun_mk (st := s_are_alike) l_are_alike c_are_alike k_are_alike
  have B_are_alike := F_are_alike.binds (ps := ["one", "other"]) fun _ _ _ _ _ _ us hl => match us, hl with | [_, _], _ => rfl
  have F_eq := fun_mk (st := s_eq) l_eq c_eq k_eq
  have B_eq := F_eq.binds (ps := ["self", "other"]) fun _ _ _ _ _ _ us hl => match us, hl with | [_, _], _ => rfl
  have F_Req := fun_mk (st := s_Req) l_Req c_Req k_Req
  have B_Req := F_Req.binds (ps := ["self", "other"]) fun _ _ _ _ _ _ us hl => match us, hl with | [_, _], _ => rfl
  have F_Peq := fun_mk (st := s_Peq) l_Peq c_Peq k_Peq
  have B_Peq := F_Peq.binds (ps := ["self", "other"]) fun _ _ _ _ _ _ us hl => match us, hl with | [_, _], _ => rfl
  have F_law_cell_at := fun_mk (st := s_law_cell_at) l_law_cell_at c_law_cell_at k_law_cell_at
  have B_law_cell_at := F_law_cell_at.binds (ps := ["_law_script", "_law_k"]) fun _ _ _ _ _ _ us hl => match us, hl with | [_, _], _ => rfl
  have F_law_pen := fun_mk (st := s_law_pen) l_law_pen c_law_pen k_law_pen
  have B_law_pen := F_law_pen.binds (ps := ["_law_cell"]) fun _ _ _ _ _ _ us hl => match us, hl with | [_], _ => rfl
  have F_law_draw := fun_mk (st := s_law_draw) l_law_draw c_law_draw k_law_draw
  have B_law_draw := F_law_draw.binds (ps := ["_law_pen_here", "_law_many"]) fun _ _ _ _ _ _ us hl => match us, hl with | [_, _], _ => rfl
  have F_law_same := fun_mk (st := s_law_same) l_law_same c_law_same k_law_same
  have B_law_same := F_law_same.binds (ps := ["_law_actual", "_law_expected"]) fun _ _ _ _ _ _ us hl => match us, hl with | [_, _], _ => rfl
  have F_law_made := fun_mk (st := s_law_made) l_law_made c_law_made k_law_made
  have B_law_made := F_law_made.binds (ps := ["_law_place", "_law_units"]) fun _ _ _ _ _ _ us hl => match us, hl with | [_, _], _ => rfl
  have F_law_request := fun_mk (st := s_law_request) l_law_request c_law_request k_law_request
  have B_law_request := F_law_request.binds (ps := ["_law_requests", "_law_units", "_law_process", "_law_rank"]) fun _ _ _ _ _ _ us hl => match us, hl with | [_, _, _, _], _ => rfl
  have F_law_key := fun_mk (st := s_law_key) l_law_key c_law_key k_law_key
  have B_law_key := F_law_key.binds (ps := ["_law_place", "_law_units", "_law_requests"]) fun _ _ _ _ _ _ us hl => match us, hl with | [_, _, _], _ => rfl
  have F_law_written := fun_mk (st := s_law_written) l_law_written c_law_written k_law_written
  have B_law_written := F_law_written.binds (ps := ["_law_place", "_law_units", "_law_requests"]) fun _ _ _ _ _ _ us hl => match us, hl with | [_, _, _], _ => rfl
  have F_law_is_kind := fun_mk (st := s_law_is_kind) l_law_is_kind c_law_is_kind k_law_is_kind
  have B_law_is_kind := F_law_is_kind.binds (ps := ["_law_place", "_law_line"]) fun _ _ _ _ _ _ us hl => match us, hl with | [_, _], _ => rfl
  have F_law := fun_mk (st := s_law) l_law c_law k_law
  have B_law := F_law.binds (ps := ["_law_script"]) fun _ _ _ _ _ _ us hl => match us, hl with | [_], _ => rfl
  have T_C1_C1_holders : SupTo K C1 C1 "holders" f_holders := ⟨Option.isSome_iff_exists.mp ic_C1, Option.isSome_iff_exists.mp ic_C1, mro_C1_C1, u_C1_C1_holders, fn_holders, ty_holders, opq⟩
  have T_C2_C1_holders : SupTo K C2 C1 "holders" f_holders := ⟨Option.isSome_iff_exists.mp ic_C2, Option.isSome_iff_exists.mp ic_C1, mro_C2_C1, u_C2_C1_holders, fn_holders, ty_holders, opq⟩
  have T_C1_C1_served : SupTo K C1 C1 "_served" f_served := ⟨Option.isSome_iff_exists.mp ic_C1, Option.isSome_iff_exists.mp ic_C1, mro_C1_C1, u_C1_C1_served, fn_served, ty_served, opq⟩
  have T_C2_C1_served : SupTo K C2 C1 "_served" f_served := ⟨Option.isSome_iff_exists.mp ic_C2, Option.isSome_iff_exists.mp ic_C1, mro_C2_C1, u_C2_C1_served, fn_served, ty_served, opq⟩
  have T_C1_C1_waiting : SupTo K C1 C1 "waiting" f_waiting := ⟨Option.isSome_iff_exists.mp ic_C1, Option.isSome_iff_exists.mp ic_C1, mro_C1_C1, u_C1_C1_waiting, fn_waiting, ty_waiting, opq⟩
  have T_C2_C1_waiting : SupTo K C2 C1 "waiting" f_waiting := ⟨Option.isSome_iff_exists.mp ic_C2, Option.isSome_iff_exists.mp ic_C1, mro_C2_C1, u_C2_C1_waiting, fn_waiting, ty_waiting, opq⟩
  have T_C1_C1_request : SupTo K C1 C1 "request" f_request := ⟨Option.isSome_iff_exists.mp ic_C1, Option.isSome_iff_exists.mp ic_C1, mro_C1_C1, u_C1_C1_request, fn_request, ty_request, opq⟩
  have T_C2_C1_request : SupTo K C2 C1 "request" f_request := ⟨Option.isSome_iff_exists.mp ic_C2, Option.isSome_iff_exists.mp ic_C1, mro_C2_C1, u_C2_C1_request, fn_request, ty_request, opq⟩
  have T_C1_C1_release : SupTo K C1 C1 "release" f_release := ⟨Option.isSome_iff_exists.mp ic_C1, Option.isSome_iff_exists.mp ic_C1, mro_C1_C1, u_C1_C1_release, fn_release, ty_release, opq⟩
  have T_C2_C1_release : SupTo K C2 C1 "release" f_release := ⟨Option.isSome_iff_exists.mp ic_C2, Option.isSome_iff_exists.mp ic_C1, mro_C2_C1, u_C2_C1_release, fn_release, ty_release, opq⟩
  have T_C2_C2_holders : SupTo K C2 C2 "holders" f_Rholders := ⟨Option.isSome_iff_exists.mp ic_C2, Option.isSome_iff_exists.mp ic_C2, mro_C2_C2, u_C2_C2_holders, fn_Rholders, ty_Rholders, opq⟩
  have T_C2_C2_waiting : SupTo K C2 C2 "waiting" f_Rwaiting := ⟨Option.isSome_iff_exists.mp ic_C2, Option.isSome_iff_exists.mp ic_C2, mro_C2_C2, u_C2_C2_waiting, fn_Rwaiting, ty_Rwaiting, opq⟩
  have T_C2_C2_request : SupTo K C2 C2 "request" f_Rrequest := ⟨Option.isSome_iff_exists.mp ic_C2, Option.isSome_iff_exists.mp ic_C2, mro_C2_C2, u_C2_C2_request, fn_Rrequest, ty_Rrequest, opq⟩
  have T_C2_C2_release : SupTo K C2 C2 "release" f_Rrelease := ⟨Option.isSome_iff_exists.mp ic_C2, Option.isSome_iff_exists.mp ic_C2, mro_C2_C2, u_C2_C2_release, fn_Rrelease, ty_Rrelease, opq⟩
  have T : TxtS K mg := ⟨PySem.W.mg_none_of X G z_isinstance, PySem.W.mg_none_of X G z_int, PySem.W.mg_none_of X G z_bool, PySem.W.mg_none_of X G z_len, PySem.W.mg_none_of X G z_tuple, PySem.W.mg_none_of X G z_enumerate, PySem.W.mg_none_of X G z_max, PySem.W.mg_none_of X G z_repr, PySem.W.mg_none_of X G z_sorted, PySem.W.mg_none_of X G z_range, PySem.W.mg_none_of X G z_super, PySem.W.mg_none_of X G z_str, ⟨_, PySem.W.mg_of X G v_LAST_PROCESS⟩, ⟨_, PySem.W.mg_of X G v_LAST_RANK⟩⟩
  have XF_HoldError : XcF K mg "HoldError" XH := ⟨x_XH, PySem.W.mg_of X G a_XH, k_XH, b_XH, t_XH, exm_own b_XH i_XH t_XH s_XH⟩
  have Lc_C0 : Cls K C0 := ⟨pg_C0, hd_C0, po_C0, sa_C0⟩
  have Lc_C1 : Cls K C1 := ⟨pg_C1, hd_C1, po_C1, sa_C1⟩
  have Lc_C2 : Cls K C2 := ⟨pg_C2, hd_C2, po_C2, sa_C2⟩
  refine ⟨PySem.W.fnOf "law" "law" (defArgs s_law) (defBody s_law) (defScope s_law) .none kV_law dc_law pm_law an_law cd_law ct_law, fun s v => .of_eq rfl, fun base hbi hbn => ?_⟩
  have G_is_between : GF l.prog w K mg base "is_between" 1 _ _ _ d_is_between := ⟨ok_is_between F_is_between T, B_is_between, PySem.W.mg_of X G a_is_between, k_is_between⟩
  have G_check_number : GF l.prog w K mg base "check_number" 2 _ _ _ d_check_number := ⟨ok_check_number F_check_number T G_is_between, B_check_number, PySem.W.mg_of X G a_check_number, k_check_number⟩
  have G_check_process : GF l.prog w K mg base "_check_process" 3 _ _ _ d_check_process := ⟨ok_check_process F_check_process T G_check_number, B_check_process, PySem.W.mg_of X G a_check_process, k_check_process⟩
  have G_check_rank : GF l.prog w K mg base "_check_rank" 3 _ _ _ d_check_rank := ⟨ok_check_rank F_check_rank T G_check_number, B_check_rank, PySem.W.mg_of X G a_check_rank, k_check_rank⟩
  have L0 : Lin K C0 := ⟨Lc_C0, n_C0_units, n_C0_requests, ⟨_, v_C0MOST_UNITS, ⟨_, rfl⟩, w_C0MOST_UNITS, by decide +kernel⟩⟩
  have M0_holders : MF l.prog w K mg base C0 "holders" 3 _ _ _ (d_holders C0) := ⟨(ok_holders F_holders T L0).mono (by decide), B_holders, Lc_C0, ⟨a_C0_holders, i_holders, k_holders⟩⟩
  have P0_free : PF l.prog w K mg base C0 "free" 4 _ _ _ _ (d_free C0) := ⟨ok_free F_free T L0 M0_holders, B_free, Lc_C0, ⟨a_C0_free, g_free, t_free, ⟨_, r_freeF⟩⟩⟩
  have M0_served : MF l.prog w K mg base C0 "_served" 2 _ _ _ (d_served C0 sv0) := ⟨(ok_served F_served T L0).mono (by decide), B_served, Lc_C0, ⟨a_C0_served, i_served, k_served⟩⟩
  have M0_waiting : MF l.prog w K mg base C0 "waiting" 5 _ _ _ (d_waiting C0 sv0) := ⟨(ok_waiting F_waiting T sv_sv0 L0 M0_served).mono (by decide), B_waiting, Lc_C0, ⟨a_C0_waiting, i_waiting, k_waiting⟩⟩
  have P0_length : PF l.prog w K mg base C0 "length" 6 _ _ _ _ (d_length C0 sv0) := ⟨ok_length F_length T sv_sv0 L0 M0_waiting, B_length, Lc_C0, ⟨a_C0_length, g_length, t_length, ⟨_, r_lengthF⟩⟩⟩
  have M0_request : MF l.prog w K mg base C0 "request" 8 _ _ _ (d_request C0) := ⟨(ok_request F_request T L0 G_check_process G_check_rank P0_free).mono (by decide), B_request, Lc_C0, ⟨a_C0_request, i_request, k_request⟩⟩
  have M0_release : MF l.prog w K mg base C0 "release" 6 _ _ _ (d_release C0 XH sv0) := ⟨(ok_release F_release T sv_sv0 L0 G_check_process M0_served XF_HoldError).mono (by decide), B_release, Lc_C0, ⟨a_C0_release, i_release, k_release⟩⟩
  have N0 : NF l.prog w K mg base "Line" C0 3 _ _ _ (d_init C0) := ⟨ok_init F_init T L0 G_check_number, B_init, PySem.W.mg_of X G a_C0, ⟨mk_C0, a_C0_init, i_init, kc_C0⟩⟩
  have L1 : Lin K C1 := ⟨Lc_C1, n_C1_units, n_C1_requests, ⟨_, v_C1MOST_UNITS, ⟨_, rfl⟩, w_C1MOST_UNITS, by decide +kernel⟩⟩
  have U1_holders := UF.mk (ok_holders (P := l.prog) (w := w) (base := base) F_holders T L1) B_holders T_C1_C1_holders
  have R1_holders := ok_Rholders (P := l.prog) (w := w) (base := base) F_Rholders T U1_holders
  have M1_holders : MF l.prog w K mg base C1 "holders" 3 _ _ _ (d_holders C1) := ⟨R1_holders.mono (by decide), B_Rholders, Lc_C1, ⟨a_C1_holders, i_Rholders, k_Rholders⟩⟩
  have P1_free : PF l.prog w K mg base C1 "free" 4 _ _ _ _ (d_free C1) := ⟨ok_Rfree F_Rfree T L1 M1_holders, B_Rfree, Lc_C1, ⟨a_C1_free, g_Rfree, t_Rfree, ⟨_, r_RfreeF⟩⟩⟩
  have U1_served := UF.mk (ok_served (P := l.prog) (w := w) (base := base) F_served T L1) B_served T_C1_C1_served
  have M1_served : MF l.prog w K mg base C1 "_served" 2 _ _ _ (d_served C1 (svR 1)) := ⟨ok_Rserved F_Rserved T L1 U1_served, B_Rserved, Lc_C1, ⟨a_C1_served, i_Rserved, k_Rserved⟩⟩
  have U1_waiting := UF.mk (ok_waiting (P := l.prog) (w := w) (base := base) F_waiting T (sv_svR 1) L1 M1_served) B_waiting T_C1_C1_waiting
  have R1_waiting := ok_Rwaiting (P := l.prog) (w := w) (base := base) F_Rwaiting T U1_waiting
  have M1_waiting : MF l.prog w K mg base C1 "waiting" 5 _ _ _ (d_waiting C1 (svR 1)) := ⟨R1_waiting.mono (by decide), B_Rwaiting, Lc_C1, ⟨a_C1_waiting, i_Rwaiting, k_Rwaiting⟩⟩
  have P1_length : PF l.prog w K mg base C1 "length" 6 _ _ _ _ (d_length C1 (svR 1)) := ⟨ok_Rlength F_Rlength T (sv_svR 1) L1 M1_waiting, B_Rlength, Lc_C1, ⟨a_C1_length, g_Rlength, t_Rlength, ⟨_, r_RlengthF⟩⟩⟩
  have U1_request := UF.mk (ok_request (P := l.prog) (w := w) (base := base) F_request T L1 G_check_process G_check_rank P1_free) B_request T_C1_C1_request
  have R1_request := ok_Rrequest (P := l.prog) (w := w) (base := base) F_Rrequest T U1_request
  have M1_request : MF l.prog w K mg base C1 "request" 8 _ _ _ (d_request C1) := ⟨R1_request.mono (by decide), B_Rrequest, Lc_C1, ⟨a_C1_request, i_Rrequest, k_Rrequest⟩⟩
  have U1_release := UF.mk (ok_release (P := l.prog) (w := w) (base := base) F_release T (sv_svR 1) L1 G_check_process M1_served XF_HoldError) B_release T_C1_C1_release
  have R1_release := ok_Rrelease (P := l.prog) (w := w) (base := base) F_Rrelease T U1_release
  have M1_release : MF l.prog w K mg base C1 "release" 6 _ _ _ (d_release C1 XH (svR 1)) := ⟨R1_release.mono (by decide), B_Rrelease, Lc_C1, ⟨a_C1_release, i_Rrelease, k_Rrelease⟩⟩
  have N1 : NF l.prog w K mg base "RankLine" C1 3 _ _ _ (d_init C1) := ⟨ok_init F_init T L1 G_check_number, B_init, PySem.W.mg_of X G a_C1, ⟨mk_C1, a_C1_init, i_init, kc_C1⟩⟩
  have L2 : Lin K C2 := ⟨Lc_C2, n_C2_units, n_C2_requests, ⟨_, v_C2MOST_UNITS, ⟨_, rfl⟩, w_C2MOST_UNITS, by decide +kernel⟩⟩
  have U2_holders := UF.mk (ok_holders (P := l.prog) (w := w) (base := base) F_holders T L2) B_holders T_C2_C1_holders
  have R2_holders := ok_Rholders (P := l.prog) (w := w) (base := base) F_Rholders T U2_holders
  have V2_holders := UF.mk R2_holders B_Rholders T_C2_C2_holders
  have M2_holders : MF l.prog w K mg base C2 "holders" 3 _ _ _ (d_holders C2) := ⟨(ok_Pholders F_Pholders T V2_holders).mono (by decide), B_Pholders, Lc_C2, ⟨a_C2_holders, i_Pholders, k_Pholders⟩⟩
  have P2_free : PF l.prog w K mg base C2 "free" 4 _ _ _ _ (d_free C2) := ⟨ok_Pfree F_Pfree T L2 M2_holders, B_Pfree, Lc_C2, ⟨a_C2_free, g_Pfree, t_Pfree, ⟨_, r_PfreeF⟩⟩⟩
  have U2_served := UF.mk (ok_served (P := l.prog) (w := w) (base := base) F_served T L2) B_served T_C2_C1_served
  have M2_served : MF l.prog w K mg base C2 "_served" 2 _ _ _ (d_served C2 (svR 1)) := ⟨ok_Rserved F_Rserved T L2 U2_served, B_Rserved, Lc_C2, ⟨a_C2_served, i_Rserved, k_Rserved⟩⟩
  have U2_waiting := UF.mk (ok_waiting (P := l.prog) (w := w) (base := base) F_waiting T (sv_svR 1) L2 M2_served) B_waiting T_C2_C1_waiting
  have R2_waiting := ok_Rwaiting (P := l.prog) (w := w) (base := base) F_Rwaiting T U2_waiting
  have V2_waiting := UF.mk R2_waiting B_Rwaiting T_C2_C2_waiting
  have M2_waiting : MF l.prog w K mg base C2 "waiting" 5 _ _ _ (d_waiting C2 (svR 1)) := ⟨(ok_Pwaiting F_Pwaiting T V2_waiting).mono (by decide), B_Pwaiting, Lc_C2, ⟨a_C2_waiting, i_Pwaiting, k_Pwaiting⟩⟩
  have P2_length : PF l.prog w K mg base C2 "length" 6 _ _ _ _ (d_length C2 (svR 1)) := ⟨ok_Plength F_Plength T (sv_svR 1) L2 M2_waiting, B_Plength, Lc_C2, ⟨a_C2_length, g_Plength, t_Plength, ⟨_, r_PlengthF⟩⟩⟩
  have U2_request := UF.mk (ok_request (P := l.prog) (w := w) (base := base) F_request T L2 G_check_process G_check_rank P2_free) B_request T_C2_C1_request
  have R2_request := ok_Rrequest (P := l.prog) (w := w) (base := base) F_Rrequest T U2_request
  have V2_request := UF.mk R2_request B_Rrequest T_C2_C2_request
  have M2_request : MF l.prog w K mg base C2 "request" 8 _ _ _ (d_request C2) := ⟨(ok_Prequest F_Prequest T V2_request).mono (by decide), B_Prequest, Lc_C2, ⟨a_C2_request, i_Prequest, k_Prequest⟩⟩
  have U2_release := UF.mk (ok_release (P := l.prog) (w := w) (base := base) F_release T (sv_svR 1) L2 G_check_process M2_served XF_HoldError) B_release T_C2_C1_release
  have R2_release := ok_Rrelease (P := l.prog) (w := w) (base := base) F_Rrelease T U2_release
  have V2_release := UF.mk R2_release B_Rrelease T_C2_C2_release
  have M2_release : MF l.prog w K mg base C2 "release" 6 _ _ _ (d_release C2 XH (svR 1)) := ⟨(ok_Prelease F_Prelease T V2_release).mono (by decide), B_Prelease, Lc_C2, ⟨a_C2_release, i_Prelease, k_Prelease⟩⟩
  have N2 : NF l.prog w K mg base "PreemptLine" C2 3 _ _ _ (d_init C2) := ⟨ok_init F_init T L2 G_check_number, B_init, PySem.W.mg_of X G a_C2, ⟨mk_C2, a_C2_init, i_init, kc_C2⟩⟩
  have G_law_cell_at : GF l.prog w K mg base "_law_cell_at" 1 _ _ _ d_law_cell_at := ⟨ok_law_cell_at F_law_cell_at T, B_law_cell_at, PySem.W.mg_of X G a_law_cell_at, k_law_cell_at⟩
  have G_law_pen : GF l.prog w K mg base "_law_pen" 1 _ _ _ d_law_pen := ⟨ok_law_pen F_law_pen T, B_law_pen, PySem.W.mg_of X G a_law_pen, k_law_pen⟩
  have G_law_draw : GF l.prog w K mg base "_law_draw" 1 _ _ _ d_law_draw := ⟨ok_law_draw F_law_draw T, B_law_draw, PySem.W.mg_of X G a_law_draw, k_law_draw⟩
  have G_law_same : GF l.prog w K mg base "_law_same" 1 _ _ _ d_law_same := ⟨ok_law_same F_law_same T, B_law_same, PySem.W.mg_of X G a_law_same, k_law_same⟩
  have R0_repr : MF l.prog w K mg base C0 "__repr__" 8 _ _ _ (d_repr C0 sv0 "Line(") := ⟨ok_repr F_repr T L0 P0_length, B_repr, Lc_C0, ⟨a_C0_repr, i_repr, k_repr⟩⟩
  have R1_repr : MF l.prog w K mg base C1 "__repr__" 8 _ _ _ (d_repr C1 (svR 1) "RankLine(") := ⟨ok_Rrepr F_Rrepr T L1 P1_length, B_Rrepr, Lc_C1, ⟨a_C1_repr, i_Rrepr, k_Rrepr⟩⟩
  have R2_repr : MF l.prog w K mg base C2 "__repr__" 8 _ _ _ (d_repr C2 (svR 1) "PreemptLine(") := ⟨ok_Prepr F_Prepr T L2 P2_length, B_Prepr, Lc_C2, ⟨a_C2_repr, i_Prepr, k_Prepr⟩⟩
  have e0 : sv0 = svR (kf 0) := (funext svR0).symm
  rw [e0] at R0_repr M0_release
  have I0 : ClsI K C0 := ⟨Lc_C0, ha_C0, cn_, ct_, hm_C0⟩
  have I1 : ClsI K C1 := ⟨Lc_C1, ha_C1, cn_, ct_, hm_C1⟩
  have I2 : ClsI K C2 := ⟨Lc_C2, ha_C2, cn_, ct_, hm_C2⟩
  have Nm0 : NmC K C0 "Line" := ⟨⟨_, _, _, _, _, lk_C0, ls_C0⟩, ty_C0, fc_C0, opq⟩
  have Nm1 : NmC K C1 "RankLine" := ⟨⟨_, _, _, _, _, lk_C1, ls_C1⟩, ty_C1, fc_C1, opq⟩
  have Nm2 : NmC K C2 "PreemptLine" := ⟨⟨_, _, _, _, _, lk_C2, ls_C2⟩, ty_C2, fc_C2, opq⟩
  have HI : ∀ j, j < 3 → ClsI K (fn3 C0 C1 C2 j) ∧ NmC K (fn3 C0 C1 C2 j) (nm3 j) ∧ Lin K (fn3 C0 C1 C2 j) := fun j hj => all3 (p := fun j => ClsI K (fn3 C0 C1 C2 j) ∧ NmC K (fn3 C0 C1 C2 j) (nm3 j) ∧ Lin K (fn3 C0 C1 C2 j)) ⟨I0, Nm0, L0⟩ ⟨I1, Nm1, L1⟩ ⟨I2, Nm2, L2⟩ hj
  have HK : ∀ i k, i < 3 → k < 3 → PySem.W.kitOne K (.ref (fn3 C0 C1 C2 k)) (.ref (fn3 C0 C1 C2 i)) = some (decide (i ≤ k)) := fun i k hi hk => all33 (p := fun i k => PySem.W.kitOne K (.ref (fn3 C0 C1 C2 k)) (.ref (fn3 C0 C1 C2 i)) = some (decide (i ≤ k))) ki_C0_C0 ki_C1_C0 ki_C2_C0 ki_C0_C1 ki_C1_C1 ki_C2_C1 ki_C0_C2 ki_C1_C2 ki_C2_C2 hi hk
  have HF : ∀ j k, j < 3 → k < 3 → k ≤ j → PySem.W.notFirst K (fn3 C0 C1 C2 j) (.ref (fn3 C0 C1 C2 k)) = true := fun j k hj hk hkj => all33 (p := fun j k => k ≤ j → PySem.W.notFirst K (fn3 C0 C1 C2 j) (.ref (fn3 C0 C1 C2 k)) = true) (fun _ => nf_me) (fun h => absurd h (by decide)) (fun h => absurd h (by decide)) (fun _ => nf_no mq_C0_C1) (fun _ => nf_me) (fun h => absurd h (by decide)) (fun _ => nf_no mq_C0_C2) (fun _ => nf_no mq_C1_C2) (fun _ => nf_me) hj hk hkj
  have HS : ∀ j k, j < k → k < 3 → (Value.ref (fn3 C0 C1 C2 j) != Value.ref (fn3 C0 C1 C2 k)) = true ∧ PySem.W.subIn K (.ref (fn3 C0 C1 C2 k)) (.ref (fn3 C0 C1 C2 j)) = some true := fun j k hjk hk => all33 (p := fun j k => j < k → (Value.ref (fn3 C0 C1 C2 j) != Value.ref (fn3 C0 C1 C2 k)) = true ∧ PySem.W.subIn K (.ref (fn3 C0 C1 C2 k)) (.ref (fn3 C0 C1 C2 j)) = some true)
    (fun h => absurd h (by decide)) (fun _ => ⟨nc_C0_C1, mq_C1_C0⟩) (fun _ => ⟨nc_C0_C2, mq_C2_C0⟩) (fun h => absurd h (by decide)) (fun h => absurd h (by decide)) (fun _ => ⟨nc_C1_C2, mq_C2_C1⟩) (fun h => absurd h (by decide)) (fun h => absurd h (by decide)) (fun h => absurd h (by decide)) (Nat.lt_trans hjk hk) hk hjk
  have HT : ∀ j, j < 3 → ∀ T ∈ tyS, PySem.W.notFirst K (fn3 C0 C1 C2 j) (.type T) = true ∧ PySem.W.kitOne K (.type T) (.ref (fn3 C0 C1 C2 j)) = some false := fun j hj => all3 (p := fun j => ∀ T ∈ tyS, PySem.W.notFirst K (fn3 C0 C1 C2 j) (.type T) = true ∧ PySem.W.kitOne K (.type T) (.ref (fn3 C0 C1 C2 j)) = some false)
    (ty_all kt_NoneType_C0 kt_bool_C0 kt_int_C0 kt_str_C0 kt_tuple_C0 kt_list_C0) (ty_all kt_NoneType_C1 kt_bool_C1 kt_int_C1 kt_str_C1 kt_tuple_C1 kt_list_C1) (ty_all kt_NoneType_C2 kt_bool_C2 kt_int_C2 kt_str_C2 kt_tuple_C2 kt_list_C2) hj
  have G_are_alike : GF l.prog w K mg base "_are_alike" 1 _ _ _ (d_are_alike C0 C1 C2) := ⟨ok_are_alike F_are_alike T HI, B_are_alike, PySem.W.mg_of X G a_are_alike, k_are_alike⟩
  have M0_eq : MF l.prog w K mg base C0 "__eq__" 2 _ _ _ (d_eqO K C0 C1 C2 0) := ⟨ok_eq F_eq T HI HK (PySem.W.mg_of X G a_C0) G_are_alike, B_eq, Lc_C0, ⟨a_C0_eq, i_eq, k_eq⟩⟩
  have M1_eq : MF l.prog w K mg base C1 "__eq__" 2 _ _ _ (d_eqO K C0 C1 C2 1) := ⟨ok_Req F_Req T HI HK (PySem.W.mg_of X G a_C1) G_are_alike, B_Req, Lc_C1, ⟨a_C1_eq, i_Req, k_Req⟩⟩
  have M2_eq : MF l.prog w K mg base C2 "__eq__" 2 _ _ _ (d_eqO K C0 C1 C2 2) := ⟨ok_Peq F_Peq T HI HK (PySem.W.mg_of X G a_C2) G_are_alike, B_Peq, Lc_C2, ⟨a_C2_eq, i_Peq, k_Peq⟩⟩
  have G_law_made : GF l.prog w K mg base "_law_made" 5 _ _ _ (d_law_made C0 C1 C2) := ⟨ok_law_made F_law_made T N0 N1 N2, B_law_made, PySem.W.mg_of X G a_law_made, k_law_made⟩
  have G_law_request : GF l.prog w K mg base "_law_request" 1 _ _ _ d_law_request := ⟨ok_law_request F_law_request T, B_law_request, PySem.W.mg_of X G a_law_request, k_law_request⟩
  have G_law_key : GF l.prog w K mg base "_law_key" 1 _ _ _ d_law_key := ⟨ok_law_key F_law_key T, B_law_key, PySem.W.mg_of X G a_law_key, k_law_key⟩
  have G_law_written : GF l.prog w K mg base "_law_written" 1 _ _ _ d_law_written := ⟨ok_law_written F_law_written T, B_law_written, PySem.W.mg_of X G a_law_written, k_law_written⟩
  have eCL : CL = C0 := by
    have e := a_CL.symm.trans a_C0
    injection e with e
    injection e with e
    injection e
  rw [eCL] at r_CL v_CLMOST_UNITS g_CL
  have G_law_is_kind : GF l.prog w K mg base "_law_is_kind" 2 _ _ _ (d_law_is_kind C0 C1 C2) := ⟨ok_law_is_kind F_law_is_kind T HI HK (PySem.W.mg_of X G a_C0) (PySem.W.mg_of X G a_C1) (PySem.W.mg_of X G a_C2) ⟨r_CL, g_CL⟩ ⟨v_CLMOST_UNITS, ⟨_, rfl⟩⟩ G_law_same, B_law_is_kind, PySem.W.mg_of X G a_law_is_kind, k_law_is_kind⟩
  exact ok_law F_law T M0_request M1_request M2_request M0_release M1_release M2_release R0_repr R1_repr R2_repr M0_eq M1_eq M2_eq ⟨ne_C0, I0⟩ ⟨ne_C1, I1⟩ ⟨ne_C2, I2⟩ (fun j hj => (HI j hj).1) HF HS HT
    G_law_cell_at G_law_pen G_law_draw G_law_same G_law_made G_law_request G_law_key G_law_written G_law_is_kind
end Dl
open PySem PySem.W PyProof.Rows
set_option maxRecDepth 100000 in
set_option maxHeartbeats 0 in
theorem PySem.Challenge.cw_eventsim_k17_lines_equal_holds : PySem.Challenge.rw_eventsim_k17_lines_equal.Holds := by
  w_on; o_law; k_head; (case hw => w_witness2)
  k_fill
  refine Dl.walk_d (l := PySem.Challenge.rw_eventsim_k17_lines_equal) (k := 12) (x := "_law_script") rfl rfl ⟨rfl, by decide, by decide⟩ (fun w h Y => PySem.W.kIn_of Y) ?F
  case F =>
    intro w mg fa h KX G hmg
    refine' Dl.all_mk KX G hmg ?a_C0 ?pg_C0 ?hd_C0 ?po_C0 ?sa_C0 ?mk_C0 ?kc_C0 ?ic_C0 ?n_C0_units ?n_C0_requests ?v_C0MOST_UNITS ?w_C0MOST_UNITS ?a_C1 ?pg_C1 ?hd_C1 ?po_C1 ?sa_C1 ?mk_C1 ?kc_C1 ?ic_C1 ?n_C1_units ?n_C1_requests ?v_C1MOST_UNITS ?w_C1MOST_UNITS ?a_C2 ?pg_C2 ?hd_C2 ?po_C2 ?sa_C2 ?mk_C2 ?kc_C2 ?ic_C2 ?n_C2_units ?n_C2_requests ?v_C2MOST_UNITS ?w_C2MOST_UNITS ?a_XH ?x_XH ?k_XH ?b_XH ?t_XH ?i_XH ?s_XH ?v_LAST_PROCESS ?v_LAST_RANK ?a_CL ?r_CL ?g_CL ?v_CLMOST_UNITS ?z_isinstance ?z_int ?z_bool ?z_len ?z_tuple ?z_enumerate ?z_max ?z_repr ?z_sorted ?z_range ?z_super ?z_str ?cn_ ?ct_ ?ha_C0 ?hm_C0 ?ne_C0 ?lk_C0 ?ls_C0 ?ty_C0 ?fc_C0 ?kt_NoneType_C0 ?kt_bool_C0 ?kt_int_C0 ?kt_str_C0 ?kt_tuple_C0 ?kt_list_C0 ?ki_C0_C0 ?mq_C0_C0 ?ki_C0_C1 ?mq_C0_C1 ?nc_C0_C1 ?ki_C0_C2 ?mq_C0_C2 ?nc_C0_C2 ?ha_C1 ?hm_C1 ?ne_C1 ?lk_C1 ?ls_C1 ?ty_C1 ?fc_C1 ?kt_NoneType_C1 ?kt_bool_C1 ?kt_int_C1 ?kt_str_C1 ?kt_tuple_C1 ?kt_list_C1 ?ki_C1_C0 ?mq_C1_C0 ?ki_C1_C1 ?mq_C1_C1 ?ki_C1_C2 ?mq_C1_C2 ?nc_C1_C2 ?ha_C2 ?hm_C2 ?ne_C2 ?lk_C2 ?ls_C2 ?ty_C2 ?fc_C2 ?kt_NoneType_C2 ?kt_bool_C2 ?kt_int_C2 ?kt_str_C2 ?kt_tuple_C2 ?kt_list_C2 ?ki_C2_C0 ?mq_C2_C0 ?ki_C2_C1 ?mq_C2_C1 ?ki_C2_C2 ?mq_C2_C2 ?a_is_between ?l_is_between ?c_is_between ?k_is_between ?a_check_number ?l_check_number ?c_check_number ?k_check_number ?a_check_process ?l_check_process ?c_check_process ?k_check_process ?a_check_rank ?l_check_rank ?c_check_rank ?k_check_rank ?a_C0_init ?a_C1_init ?a_C2_init ?l_init ?c_init ?i_init ?k_init ?a_C0_holders ?l_holders ?c_holders ?i_holders ?k_holders ?a_C0_free ?g_free ?t_free ?r_freeF ?l_free ?c_free ?i_free ?k_free ?a_C0_served ?l_served ?c_served ?i_served ?k_served ?a_C0_waiting ?l_waiting ?c_waiting ?i_waiting ?k_waiting ?a_C0_length ?g_length ?t_length ?r_lengthF ?l_length ?c_length ?i_length ?k_length ?a_C0_repr ?l_repr ?c_repr ?i_repr ?k_repr ?a_C0_request ?l_request ?c_request ?i_request ?k_request ?a_C0_release ?l_release ?c_release ?i_release ?k_release ?a_C1_holders ?l_Rholders ?c_Rholders ?m_Rholders ?u_Rholders ?w_Rholders ?x_Rholders ?i_Rholders ?k_Rholders ?a_C1_free ?g_Rfree ?t_Rfree ?r_RfreeF ?l_Rfree ?c_Rfree ?i_Rfree ?k_Rfree ?a_C1_served ?a_C2_served ?l_Rserved ?c_Rserved ?m_Rserved ?u_Rserved ?w_Rserved ?x_Rserved ?i_Rserved ?k_Rserved ?a_C1_waiting ?l_Rwaiting ?c_Rwaiting ?m_Rwaiting ?u_Rwaiting ?w_Rwaiting ?x_Rwaiting ?i_Rwaiting ?k_Rwaiting ?a_C1_length ?g_Rlength ?t_Rlength ?r_RlengthF ?l_Rlength ?c_Rlength ?i_Rlength ?k_Rlength ?a_C1_repr ?l_Rrepr ?c_Rrepr ?i_Rrepr ?k_Rrepr ?a_C1_request ?l_Rrequest ?c_Rrequest ?m_Rrequest ?u_Rrequest ?w_Rrequest ?x_Rrequest ?i_Rrequest ?k_Rrequest ?a_C1_release ?l_Rrelease ?c_Rrelease ?m_Rrelease ?u_Rrelease ?w_Rrelease ?x_Rrelease ?i_Rrelease ?k_Rrelease ?a_C2_holders ?l_Pholders ?c_Pholders ?m_Pholders ?u_Pholders ?w_Pholders ?x_Pholders ?i_Pholders ?k_Pholders ?a_C2_free ?g_Pfree ?t_Pfree ?r_PfreeF ?l_Pfree ?c_Pfree ?i_Pfree ?k_Pfree ?a_C2_waiting ?l_Pwaiting ?c_Pwaiting ?m_Pwaiting ?u_Pwaiting ?w_Pwaiting ?x_Pwaiting ?i_Pwaiting ?k_Pwaiting ?a_C2_length ?g_Plength ?t_Plength ?r_PlengthF ?l_Plength ?c_Plength ?i_Plength ?k_Plength ?a_C2_repr ?l_Prepr ?c_Prepr ?i_Prepr ?k_Prepr ?a_C2_request ?l_Prequest ?c_Prequest ?m_Prequest ?u_Prequest ?w_Prequest ?x_Prequest ?i_Prequest ?k_Prequest ?a_C2_release ?l_Prelease ?c_Prelease ?m_Prelease ?u_Prelease ?w_Prelease ?x_Prelease ?i_Prelease ?k_Prelease ?a_are_alike ?l_are_alike ?c_are_alike ?k_are_alike ?a_C0_eq ?l_eq ?c_eq ?i_eq ?k_eq ?a_C1_eq ?l_Req ?c_Req ?i_Req ?k_Req ?a_C2_eq ?l_Peq ?c_Peq ?i_Peq ?k_Peq ?a_law_cell_at ?l_law_cell_at ?c_law_cell_at ?k_law_cell_at ?a_law_pen ?l_law_pen ?c_law_pen ?k_law_pen ?a_law_draw ?l_law_draw ?c_law_draw ?k_law_draw ?a_law_same ?l_law_same ?c_law_same ?k_law_same ?a_law_made ?l_law_made ?c_law_made ?k_law_made ?a_law_request ?l_law_request ?c_law_request ?k_law_request ?a_law_key ?l_law_key ?c_law_key ?k_law_key ?a_law_written ?l_law_written ?c_law_written ?k_law_written ?a_law_is_kind ?l_law_is_kind ?c_law_is_kind ?k_law_is_kind ?a_law ?l_law ?c_law ?k_law ?u_C1_C1_holders ?mro_C1_C1 ?fn_holders ?ty_holders ?u_C2_C1_holders ?mro_C2_C1 ?u_C1_C1_served ?fn_served ?ty_served ?u_C2_C1_served ?u_C1_C1_waiting ?fn_waiting ?ty_waiting ?u_C2_C1_waiting ?u_C1_C1_request ?fn_request ?ty_request ?u_C2_C1_request ?u_C1_C1_release ?fn_release ?ty_release ?u_C2_C1_release ?u_C2_C2_holders ?mro_C2_C2 ?fn_Rholders ?ty_Rholders ?u_C2_C2_waiting ?fn_Rwaiting ?ty_Rwaiting ?u_C2_C2_request ?fn_Rrequest ?ty_Rrequest ?u_C2_C2_release ?fn_Rrelease ?ty_Rrelease ?nosup ?opq
    (case a_C0 => k_is)
    (case pg_C0 => k_is)
    (case hd_C0 => k_is)
    (case po_C0 => k_is)
    (case sa_C0 => k_is)
    (case mk_C0 => k_is)
    (case kc_C0 => k_is)
    (case ic_C0 => k_is)
    (case n_C0_units => k_is)
    (case n_C0_requests => k_is)
    (case v_C0MOST_UNITS => k_is)
    (case w_C0MOST_UNITS => k_is)
    (case a_C1 => k_is)
    (case pg_C1 => k_is)
    (case hd_C1 => k_is)
    (case po_C1 => k_is)
    (case sa_C1 => k_is)
    (case mk_C1 => k_is)
    (case kc_C1 => k_is)
    (case ic_C1 => k_is)
    (case n_C1_units => k_is)
    (case n_C1_requests => k_is)
    (case v_C1MOST_UNITS => k_is)
    (case w_C1MOST_UNITS => k_is)
    (case a_C2 => k_is)
    (case pg_C2 => k_is)
    (case hd_C2 => k_is)
    (case po_C2 => k_is)
    (case sa_C2 => k_is)
    (case mk_C2 => k_is)
    (case kc_C2 => k_is)
    (case ic_C2 => k_is)
    (case n_C2_units => k_is)
    (case n_C2_requests => k_is)
    (case v_C2MOST_UNITS => k_is)
    (case w_C2MOST_UNITS => k_is)
    (case a_XH => k_is)
    (case x_XH => k_exc)
    (case k_XH => k_is)
    (case b_XH => k_is)
    (case t_XH => k_is)
    (case i_XH => k_is)
    (case s_XH => (first | rfl | k_is))
    (case v_LAST_PROCESS => k_is)
    (case v_LAST_RANK => k_is)
    (case a_CL => k_is)
    (case r_CL => k_is)
    (case g_CL => k_is)
    (case v_CLMOST_UNITS => k_is)
    (case z_isinstance => k_is)
    (case z_int => k_is)
    (case z_bool => k_is)
    (case z_len => k_is)
    (case z_tuple => k_is)
    (case z_enumerate => k_is)
    (case z_max => k_is)
    (case z_repr => k_is)
    (case z_sorted => k_is)
    (case z_range => k_is)
    (case z_super => k_is)
    (case z_str => k_is)
    (case cn_ => k_is)
    (case ct_ => k_is)
    (case ha_C0 => k_is)
    (case hm_C0 => k_is)
    (case ne_C0 => k_is)
    (case lk_C0 => k_is)
    (case ls_C0 => (first | rfl | k_is))
    (case ty_C0 => k_is)
    (case fc_C0 => k_is)
    (case kt_NoneType_C0 => kit_is)
    (case kt_bool_C0 => kit_is)
    (case kt_int_C0 => kit_is)
    (case kt_str_C0 => kit_is)
    (case kt_tuple_C0 => kit_is)
    (case kt_list_C0 => kit_is)
    (case ki_C0_C0 => kit_is)
    (case mq_C0_C0 => k_is)
    (case ki_C0_C1 => kit_is)
    (case mq_C0_C1 => k_is)
    (case nc_C0_C1 => (first | rfl | decide))
    (case ki_C0_C2 => kit_is)
    (case mq_C0_C2 => k_is)
    (case nc_C0_C2 => (first | rfl | decide))
    (case ha_C1 => k_is)
    (case hm_C1 => k_is)
    (case ne_C1 => k_is)
    (case lk_C1 => k_is)
    (case ls_C1 => (first | rfl | k_is))
    (case ty_C1 => k_is)
    (case fc_C1 => k_is)
    (case kt_NoneType_C1 => kit_is)
    (case kt_bool_C1 => kit_is)
    (case kt_int_C1 => kit_is)
    (case kt_str_C1 => kit_is)
    (case kt_tuple_C1 => kit_is)
    (case kt_list_C1 => kit_is)
    (case ki_C1_C0 => kit_is)
    (case mq_C1_C0 => k_is)
    (case ki_C1_C1 => kit_is)
    (case mq_C1_C1 => k_is)
    (case ki_C1_C2 => kit_is)
    (case mq_C1_C2 => k_is)
    (case nc_C1_C2 => (first | rfl | decide))
    (case ha_C2 => k_is)
    (case hm_C2 => k_is)
    (case ne_C2 => k_is)
    (case lk_C2 => k_is)
    (case ls_C2 => (first | rfl | k_is))
    (case ty_C2 => k_is)
    (case fc_C2 => k_is)
    (case kt_NoneType_C2 => kit_is)
    (case kt_bool_C2 => kit_is)
    (case kt_int_C2 => kit_is)
    (case kt_str_C2 => kit_is)
    (case kt_tuple_C2 => kit_is)
    (case kt_list_C2 => kit_is)
    (case ki_C2_C0 => kit_is)
    (case mq_C2_C0 => k_is)
    (case ki_C2_C1 => kit_is)
    (case mq_C2_C1 => k_is)
    (case ki_C2_C2 => kit_is)
    (case mq_C2_C2 => k_is)
    (case a_is_between => k_is)
    (case l_is_between => k_is)
    (case c_is_between => k_is)
    (case k_is_between => k_is)
    (case a_check_number => k_is)
    (case l_check_number => k_is)
    (case c_check_number => k_is)
    (case k_check_number => k_is)
    (case a_check_process => k_is)
    (case l_check_process => k_is)
    (case c_check_process => k_is)
    (case k_check_process => k_is)
    (case a_check_rank => k_is)
    (case l_check_rank => k_is)
    (case c_check_rank => k_is)
    (case k_check_rank => k_is)
    (case a_C0_init => k_is)
    (case a_C1_init => k_is)
    (case a_C2_init => k_is)
    (case l_init => k_is)
    (case c_init => k_is)
    (case i_init => k_is)
    (case k_init => k_is)
    (case a_C0_holders => k_is)
    (case l_holders => k_is)
    (case c_holders => k_is)
    (case i_holders => k_is)
    (case k_holders => k_is)
    (case a_C0_free => k_is)
    (case g_free => k_is)
    (case t_free => k_is)
    (case r_freeF => k_is)
    (case l_free => k_is)
    (case c_free => k_is)
    (case i_free => k_is)
    (case k_free => k_is)
    (case a_C0_served => k_is)
    (case l_served => k_is)
    (case c_served => k_is)
    (case i_served => k_is)
    (case k_served => k_is)
    (case a_C0_waiting => k_is)
    (case l_waiting => k_is)
    (case c_waiting => k_is)
    (case i_waiting => k_is)
    (case k_waiting => k_is)
    (case a_C0_length => k_is)
    (case g_length => k_is)
    (case t_length => k_is)
    (case r_lengthF => k_is)
    (case l_length => k_is)
    (case c_length => k_is)
    (case i_length => k_is)
    (case k_length => k_is)
    (case a_C0_repr => k_is)
    (case l_repr => k_is)
    (case c_repr => k_is)
    (case i_repr => k_is)
    (case k_repr => k_is)
    (case a_C0_request => k_is)
    (case l_request => k_is)
    (case c_request => k_is)
    (case i_request => k_is)
    (case k_request => k_is)
    (case a_C0_release => k_is)
    (case l_release => k_is)
    (case c_release => k_is)
    (case i_release => k_is)
    (case k_release => k_is)
    (case a_C1_holders => k_is)
    (case l_Rholders => k_is)
    (case c_Rholders => k_is)
    (case m_Rholders => k_is)
    (case u_Rholders => (first | rfl | k_is))
    (case w_Rholders => (first | rfl | decide | k_is))
    (case x_Rholders => k_is)
    (case i_Rholders => k_is)
    (case k_Rholders => k_is)
    (case a_C1_free => k_is)
    (case g_Rfree => k_is)
    (case t_Rfree => k_is)
    (case r_RfreeF => k_is)
    (case l_Rfree => k_is)
    (case c_Rfree => k_is)
    (case i_Rfree => k_is)
    (case k_Rfree => k_is)
    (case a_C1_served => k_is)
    (case a_C2_served => k_is)
    (case l_Rserved => k_is)
    (case c_Rserved => k_is)
    (case m_Rserved => k_is)
    (case u_Rserved => (first | rfl | k_is))
    (case w_Rserved => (first | rfl | decide | k_is))
    (case x_Rserved => k_is)
    (case i_Rserved => k_is)
    (case k_Rserved => k_is)
    (case a_C1_waiting => k_is)
    (case l_Rwaiting => k_is)
    (case c_Rwaiting => k_is)
    (case m_Rwaiting => k_is)
    (case u_Rwaiting => (first | rfl | k_is))
    (case w_Rwaiting => (first | rfl | decide | k_is))
    (case x_Rwaiting => k_is)
    (case i_Rwaiting => k_is)
    (case k_Rwaiting => k_is)
    (case a_C1_length => k_is)
    (case g_Rlength => k_is)
    (case t_Rlength => k_is)
    (case r_RlengthF => k_is)
    (case l_Rlength => k_is)
    (case c_Rlength => k_is)
    (case i_Rlength => k_is)
    (case k_Rlength => k_is)
    (case a_C1_repr => k_is)
    (case l_Rrepr => k_is)
    (case c_Rrepr => k_is)
    (case i_Rrepr => k_is)
    (case k_Rrepr => k_is)
    (case a_C1_request => k_is)
    (case l_Rrequest => k_is)
    (case c_Rrequest => k_is)
    (case m_Rrequest => k_is)
    (case u_Rrequest => (first | rfl | k_is))
    (case w_Rrequest => (first | rfl | decide | k_is))
    (case x_Rrequest => k_is)
    (case i_Rrequest => k_is)
    (case k_Rrequest => k_is)
    (case a_C1_release => k_is)
    (case l_Rrelease => k_is)
    (case c_Rrelease => k_is)
    (case m_Rrelease => k_is)
    (case u_Rrelease => (first | rfl | k_is))
    (case w_Rrelease => (first | rfl | decide | k_is))
    (case x_Rrelease => k_is)
    (case i_Rrelease => k_is)
    (case k_Rrelease => k_is)
    (case a_C2_holders => k_is)
    (case l_Pholders => k_is)
    (case c_Pholders => k_is)
    (case m_Pholders => k_is)
    (case u_Pholders => (first | rfl | k_is))
    (case w_Pholders => (first | rfl | decide | k_is))
    (case x_Pholders => k_is)
    (case i_Pholders => k_is)
    (case k_Pholders => k_is)
    (case a_C2_free => k_is)
    (case g_Pfree => k_is)
    (case t_Pfree => k_is)
    (case r_PfreeF => k_is)
    (case l_Pfree => k_is)
    (case c_Pfree => k_is)
    (case i_Pfree => k_is)
    (case k_Pfree => k_is)
    (case a_C2_waiting => k_is)
    (case l_Pwaiting => k_is)
    (case c_Pwaiting => k_is)
    (case m_Pwaiting => k_is)
    (case u_Pwaiting => (first | rfl | k_is))
    (case w_Pwaiting => (first | rfl | decide | k_is))
    (case x_Pwaiting => k_is)
    (case i_Pwaiting => k_is)
    (case k_Pwaiting => k_is)
    (case a_C2_length => k_is)
    (case g_Plength => k_is)
    (case t_Plength => k_is)
    (case r_PlengthF => k_is)
    (case l_Plength => k_is)
    (case c_Plength => k_is)
    (case i_Plength => k_is)
    (case k_Plength => k_is)
    (case a_C2_repr => k_is)
    (case l_Prepr => k_is)
    (case c_Prepr => k_is)
    (case i_Prepr => k_is)
    (case k_Prepr => k_is)
    (case a_C2_request => k_is)
    (case l_Prequest => k_is)
    (case c_Prequest => k_is)
    (case m_Prequest => k_is)
    (case u_Prequest => (first | rfl | k_is))
    (case w_Prequest => (first | rfl | decide | k_is))
    (case x_Prequest => k_is)
    (case i_Prequest => k_is)
    (case k_Prequest => k_is)
    (case a_C2_release => k_is)
    (case l_Prelease => k_is)
    (case c_Prelease => k_is)
    (case m_Prelease => k_is)
    (case u_Prelease => (first | rfl | k_is))
    (case w_Prelease => (first | rfl | decide | k_is))
    (case x_Prelease => k_is)
    (case i_Prelease => k_is)
    (case k_Prelease => k_is)
    (case a_are_alike => k_is)
    (case l_are_alike => k_is)
    (case c_are_alike => k_is)
    (case k_are_alike => k_is)
    (case a_C0_eq => k_is)
    (case l_eq => k_is)
    (case c_eq => k_is)
    (case i_eq => k_is)
    (case k_eq => k_is)
    (case a_C1_eq => k_is)
    (case l_Req => k_is)
    (case c_Req => k_is)
    (case i_Req => k_is)
    (case k_Req => k_is)
    (case a_C2_eq => k_is)
    (case l_Peq => k_is)
    (case c_Peq => k_is)
    (case i_Peq => k_is)
    (case k_Peq => k_is)
    (case a_law_cell_at => k_is)
    (case l_law_cell_at => k_is)
    (case c_law_cell_at => k_is)
    (case k_law_cell_at => k_is)
    (case a_law_pen => k_is)
    (case l_law_pen => k_is)
    (case c_law_pen => k_is)
    (case k_law_pen => k_is)
    (case a_law_draw => k_is)
    (case l_law_draw => k_is)
    (case c_law_draw => k_is)
    (case k_law_draw => k_is)
    (case a_law_same => k_is)
    (case l_law_same => k_is)
    (case c_law_same => k_is)
    (case k_law_same => k_is)
    (case a_law_made => k_is)
    (case l_law_made => k_is)
    (case c_law_made => k_is)
    (case k_law_made => k_is)
    (case a_law_request => k_is)
    (case l_law_request => k_is)
    (case c_law_request => k_is)
    (case k_law_request => k_is)
    (case a_law_key => k_is)
    (case l_law_key => k_is)
    (case c_law_key => k_is)
    (case k_law_key => k_is)
    (case a_law_written => k_is)
    (case l_law_written => k_is)
    (case c_law_written => k_is)
    (case k_law_written => k_is)
    (case a_law_is_kind => k_is)
    (case l_law_is_kind => k_is)
    (case c_law_is_kind => k_is)
    (case k_law_is_kind => k_is)
    (case a_law => k_is)
    (case l_law => k_is)
    (case c_law => k_is)
    (case k_law => k_is)
    (case u_C1_C1_holders => ks_is)
    (case mro_C1_C1 => k_is)
    (case fn_holders => k_is)
    (case ty_holders => k_is)
    (case u_C2_C1_holders => ks_is)
    (case mro_C2_C1 => k_is)
    (case u_C1_C1_served => ks_is)
    (case fn_served => k_is)
    (case ty_served => k_is)
    (case u_C2_C1_served => ks_is)
    (case u_C1_C1_waiting => ks_is)
    (case fn_waiting => k_is)
    (case ty_waiting => k_is)
    (case u_C2_C1_waiting => ks_is)
    (case u_C1_C1_request => ks_is)
    (case fn_request => k_is)
    (case ty_request => k_is)
    (case u_C2_C1_request => ks_is)
    (case u_C1_C1_release => ks_is)
    (case fn_release => k_is)
    (case ty_release => k_is)
    (case u_C2_C1_release => ks_is)
    (case u_C2_C2_holders => ks_is)
    (case mro_C2_C2 => k_is)
    (case fn_Rholders => k_is)
    (case ty_Rholders => k_is)
    (case u_C2_C2_waiting => ks_is)
    (case fn_Rwaiting => k_is)
    (case ty_Rwaiting => k_is)
    (case u_C2_C2_request => ks_is)
    (case fn_Rrequest => k_is)
    (case ty_Rrequest => k_is)
    (case u_C2_C2_release => ks_is)
    (case fn_Rrelease => k_is)
    (case ty_Rrelease => k_is)
    (case nosup => (first | rfl | decide | k_is))
    (case opq => k_is)
