import PyProof.Rows.All
import KE.KIntText
import KE.SortData
import KE.KeyNested
import Wide.All
import OpenK.AllK
import Wide.FinOn
import HandS.ForMost
import HandS.IsInst
import HandS.TupAny
import HandS.NoneIn
import HandS.TupMul
import HandS.Zip
import HandS.Evl
import PyProof.ReprRoads
import HandS.AnyAll
import HandS.Comp
import PyProof.TupleOfGen
import HandS.Set
import HandS.SortInts
import HandS.Walk
import HandS.TupSets
import HandS.Text
import HandS.RaiseMore
import KE.KUnpackStar
import HandS.Conv
import HandS.SetFor
import HandS.Strs
import HandS.Style
import KE.GoesEnumKw
import PySem.Challenge.RW_sentnext_k55_wrong_words_of_texts
import HandS.Exc
import HandS.ExcInit
import HandS.ExcField
import HandS.ExcIs
import HandS.WordsExc
import KE.KExcIs
import PyProof.StrOps2
set_option Elab.async false
set_option linter.all false
set_option maxRecDepth 100000
set_option maxHeartbeats 4000000
namespace Qu
open PySem PySem.Spec PyProof.Rows L2
/-! ### data stays where the heap only grows -/
theorem sameT {K : PySem.W.Frag} {H J : Hp} {a : Addr} {xs : List V} (e : Same H J) (h : SqT K H a xs) : SqT K J a xs := by
  rcases h with (h | ⟨o, h⟩) | h
  · exact Or.inl (Or.inl (e _ _ h))
  · exact Or.inl (Or.inr ⟨o, e _ _ h⟩)
  · exact Or.inr h
mutual
theorem dpSame {K : PySem.W.Frag} {H J : Hp} (e : Same H J) : ∀ (d : PyData) (v : V), Dp K H v d → Dp K J v d
  | .none, _, h => by cases h; exact .non
  | .bool b, _, h => by cases h; exact .bl b
  | .int i, _, h => by cases h; exact .int i
  | .str x, _, h => by cases h; exact .str x
  | .list ds, _, h => by cases h with | lst hs ha => exact .lst (e.seq hs) (dpAllSame e ds _ ha)
  | .tuple ds, _, h => by cases h with | tup hs ha => exact .tup (sameT e hs) (dpAllSame e ds _ ha)
  | .dict _, _, h => by cases h
theorem dpAllSame {K : PySem.W.Frag} {H J : Hp} (e : Same H J) : ∀ (ds : List PyData) (vs : List V), DpAll K H vs ds → DpAll K J vs ds
  | [], _, h => by cases h; exact .nil
  | d :: ds, _, h => by cases h with | cons h1 h2 => exact .cons (dpSame e d _ h1) (dpAllSame e ds _ h2)
end
mutual
theorem dpNoDict {K : PySem.W.Frag} {H : Hp} : ∀ (d : PyData) (v : V), Dp K H v d → d.hasDict = false
  | .none, _, _ => by simp only [PyData.hasDict]
  | .bool _, _, _ => by simp only [PyData.hasDict]
  | .int _, _, _ => by simp only [PyData.hasDict]
  | .str _, _, _ => by simp only [PyData.hasDict]
  | .list ds, _, h => by cases h with | lst hs ha => simp only [PyData.hasDict]; exact dpAllNoDict ds _ ha
  | .tuple ds, _, h => by cases h with | tup hs ha => simp only [PyData.hasDict]; exact dpAllNoDict ds _ ha
  | .dict _, _, h => by cases h
theorem dpAllNoDict {K : PySem.W.Frag} {H : Hp} : ∀ (ds : List PyData) (vs : List V), DpAll K H vs ds → PyData.hasDictAll ds = false
  | [], _, _ => by simp only [PyData.hasDictAll]
  | d :: ds, _, h => by cases h with | cons h1 h2 => simp only [PyData.hasDictAll, dpNoDict d _ h1, dpAllNoDict ds _ h2, Bool.or_false]
end

/-! ### repr of data, where no repr is under way around -/
section
variable {X : Cx}
def rShow (K : PySem.W.Frag) : List V → Hp → VK → Prop := fun xs H Q => ∃ (v : V) (d : PyData), xs = [v] ∧ Dp K H v d ∧ d.showable = true ∧ d.depth ≤ 50 ∧ d.shown.length ≤ sizeLine ∧ Q (.str d.shown) H
theorem call_show (hg : X.A.guards = some []) (hu : X.A.units + 64 < cLine) : CallR X (.builtin "repr") (rShow X.K) := by
  intro pins s σ H xs us Q I r h
  obtain ⟨v, d, rfl, hd, hs, hdep, hz, q⟩ := h
  obtain ⟨u, rfl, ru⟩ := vals1 r
  obtain ⟨as, rd⟩ := Dp.reads I d v u hd ru
  have nd := PyData.noDict_hsm (as := as) (dpNoDict d v hd)
  cases hd with
  | non =>
    cases ru
    refine PySem.P.repr_of_none ?_
    exact ⟨.str _, H, I.tok _, ⟨_, rfl⟩, by simpa only [PyData.shown] using q⟩
  | bl b =>
    cases ru
    refine PySem.P.repr_of_bool ?_
    exact ⟨.str _, H, I.tok _, ⟨_, rfl⟩, by simpa only [PyData.shown] using q⟩
  | int i =>
    obtain ⟨t, rfl⟩ := ru
    refine PySem.P.repr_of_int (by simpa [PyData.showable] using hs) ?_
    exact ⟨.str _, H, I.tok _, ⟨_, rfl⟩, by simpa only [PyData.shown] using q⟩
  | str x =>
    obtain ⟨t, rfl⟩ := ru
    refine PySem.P.repr_of_str ?_ (by simpa only [PyData.shown] using hz)
    exact ⟨.str _, H, I.tok _, ⟨_, rfl⟩, by simpa only [PyData.shown] using q⟩
  | lst h1 h2 =>
    cases ru
    exact repr_of_reads' (h₀ := s.heap) rd hs nd hg (by omega) (fun _ _ e => e) (fun h' tu tk hk => ⟨.str _, H, I.kept hk, ⟨_, rfl⟩, q⟩) hz
  | tup h1 h2 =>
    cases ru
    exact repr_of_reads' (h₀ := s.heap) rd hs nd hg (by omega) (fun _ _ e => e) (fun h' tu tk hk => ⟨.str _, H, I.kept hk, ⟨_, rfl⟩, q⟩) hz
end

/-! ### isinstance of data -/
def kindD : PyData → String
  | .none => "NoneType"
  | .bool _ => "bool"
  | .int _ => "int"
  | .str _ => "str"
  | .list _ => "list"
  | .tuple _ => "tuple"
  | .dict _ => "dict"
section
variable {K : PySem.W.Frag} {H : Hp}
theorem dpTy {d : PyData} {v : V} (h : Dp K H v d) : TyX K H v (.type (kindD d)) := by
  cases h with
  | non => exact .base .non
  | bl b => exact .base (.bl b)
  | int i => exact .base (.int i)
  | str x => exact .base (.str x)
  | lst h1 _ =>
    rcases h1 with (h1 | ⟨o, h1⟩) | ⟨o, its, n, hk, hc, _⟩
    · exact .base (.lst h1)
    · exact .base (.frz h1)
    · exact .kList hk hc
  | tup h1 _ =>
    rcases h1 with (h1 | ⟨o, h1⟩) | ⟨o, its, n, hk, hc, _⟩
    · exact .base (.tup h1)
    · exact .fTuple h1
    · exact .kTuple hk hc
def isS (T k : String) : Bool := decide (k = T) || (decide (T = "int") && decide (k = "bool"))
def isA (T : String) (d : PyData) : Bool := isS T (kindD d)
theorem kitS : ∀ T ∈ ["tuple", "int", "bool", "str", "list"], ∀ k ∈ ["NoneType", "bool", "int", "str", "list", "tuple"], kitB k T = some (isS T k) := by decide +kernel
theorem dpKind {d : PyData} {v : V} (h : Dp K H v d) : kindD d ∈ ["NoneType", "bool", "int", "str", "list", "tuple"] := by
  cases h <;> simp [kindD]
end
section
variable {X : Cx}
def rIsD (K : PySem.W.Frag) (T : String) : List V → Hp → VK → Prop := fun xs H Q => ∃ (v : V) (d : PyData), xs = [v, .ty T] ∧ Dp K H v d ∧ Q (.bl (isA T d)) H
theorem call_isD (T : String) (hT : T ∈ ["tuple", "int", "bool", "str", "list"]) : CallR X (.builtin "isinstance") (rIsD X.K T) := by
  intro pins s σ H xs us Q I r h
  obtain ⟨v, d, rfl, hd, q⟩ := h
  refine call_isi pins s σ H _ us Q I r ⟨v, .ty T, .type (kindD d), .type T, isA T d, rfl, .ty T, dpTy hd, kit_ty (kitS T hT _ (dpKind hd)), q⟩
end
/-! ### the end of a law: its def is called by the row's own caller, so nothing is under way around it -/
/-- where the script stands -/
def onlyAt (a : Addr) (u : HO) (free : Bool) : Hp := fun b => if b = a ∧ free = true then some u else none
theorem onlyAt_cases (a : Addr) (u : HO) (free : Bool) (b : Addr) : onlyAt a u free b = none ∨ (b = a ∧ free = true ∧ onlyAt a u free b = some u) := by
  by_cases h : b = a ∧ free = true
  · exact Or.inr ⟨h.1, h.2, if_pos h⟩
  · exact Or.inl (if_neg h)
/-- what the law's body has to do, at any place where its def is called by the caller -/
def LawDoes (P : Program) (w : World) (K : PySem.W.Frag) (mg : Str → Option Value) (st : Stmt) (N : List Str) (f : Addr) : Prop :=
  ∀ (base : Heap) (cdv : Value) (s : Shared) (H : Hp) (a : Addr) (ns : List Int), ns.length ≤ 63 → SqL K H a (ns.map V.int) →
    ∃ t, PSs (cxOf CX0 P w K mg base N "law" (defScope st) f cdv callerA [] s H E0).nox (defBody st) t ∧
      t { nx := fun _ _ => False, rt := fun v _ => v = .bl true } (start N [.ref a]) H
theorem law_at {P : Program} {w : World} {K : PySem.W.Frag} {mg : Str → Option Value} {base : Heap} {st : Stmt} {N : List Str} {f a : Addr} {fd : FuncData} {s : Shared} {H : Hp} {ns : List Int} {x : Str}
    (F : Fun K "law" "law" st f fd) (S : FnScope N [x] (defScope st)) (hr : Room 60 callerA) (D : LawDoes P w K mg st N f)
    (e0 : Env0 P w K mg base callerA [] s H) (hb : BindsTo s fd ⟨[.ref a], []⟩ [(x, .ref a)]) (hl : ns.length ≤ 63) (hS : SqL K H a (ns.map V.int)) :
    codeAny (model P w) callerA (.call (.ref f) ⟨[.ref a], []⟩) (CR CX0 [] P w H s (fun v _ => v = .bl true) E0) s := by
  obtain ⟨oc, od, kV, doc, pm, an, cdv, ct, osl, rfl, lk, hcd⟩ := F.ex
  have heap0 : K.In s.heap := e0.mod.kin.keeps fun b o e => (e0.bs b o e).1
  have lim0 := e0.mod.nolimit.keeps fun b o e => (e0.bs b o e).1
  have vals : Vals [V.ref a] [Value.ref a] := .cons rfl .nil
  refine codeAny_call_function hr.depth (heap0 _ _ lk) rfl S.co S.gen rfl (PySem.W.codeRec_of heap0 hcd) (hb _ _ _ _ ?_)
  refine wpAny_newFunctionEnv_cells S.kind (fun y hy => ?_) fun env he s1 ic => ?_
  · have ey : y = (x, Value.ref a) := List.mem_singleton.mp hy
    rw [ey]
    rcases S.par x (List.mem_singleton.mpr rfl) with q | q
    · exact Or.inl q
    · exact Or.inr ⟨q, PySem.W.cellsFrom_some _ _ _ (Or.inl q)⟩
  · subst he
    refine ⟨lim0.keeps ic.toInCall.keep, codeAny_func ?_⟩
    obtain ⟨t, pt, q⟩ := D base cdv s H a ns hl hS
    have I := inv_start (CX := CX0) (E := E0) (cd := cdv) (f := f) (qual := "law") S hr.hd e0 rfl vals ic
    refine wpAny_mono (pt.nox.run [] s1 _ H _ I q) ?_ ?_
    · intro fl s2 h
      cases fl with
      | ret u =>
        obtain ⟨v, _, H2, J, rv, e⟩ := h
        exact ⟨v, H2, J.os, J.bare, J.base, J.hok, rv, e⟩
      | next => exact (let ⟨_, _, _, z⟩ := h; False.elim z)
      | brk => exact (let ⟨_, _, _, z⟩ := h; False.elim z)
      | cont => exact (let ⟨_, _, _, z⟩ := h; False.elim z)
    · exact fun _ _ z => z
theorem law_walk {l : PySem.W.OpenLaw} {q : Program} {loose : List Str} {XP : (Str → Option Value) → Heap → Prop} {YP : World → Heap → Prop} {d : DefRec} {K : Params → PySem.W.Frag} {x : Str} {st : Stmt} {N : List Str}
    (hn : l.most = some 63) (hdf : d.params.defaults = []) (S : FnScope N [x] (defScope st)) (hY : ∀ (w : World) (h : Heap), YP w h → (K w.params).In h)
    (Fm : ∀ (w : World) (mg : Str → Option Value) (fa : Addr) (h : Heap), (K w.params).In h → h.Ns mainGlobals mg → mg d.name = some (.ref fa) →
      ∃ fd : FuncData, Fun (K w.params) "law" "law" st fa fd ∧ (∀ (s : Shared) (u : Value), BindsTo s fd ⟨[u], []⟩ [(x, u)]) ∧ LawDoes l.prog w (K w.params) mg st N fa) :
    PySem.W.WalkO q loose XP YP l.row.toRowW d [] (fun f vs => PySem.call f vs) := by
  refine Att.attach_call hn hdf fun w s₀ s1 mg mb fa o pm cd doc a vs ns G Y ho hd hcd hmg hobj hints hlen hgen => ?_
  have hK := hY w _ Y
  obtain ⟨fd, F, hbind, D⟩ := Fm w mg fa _ hK G.T.g hmg
  have rv := vals_ints hints
  -- the script is tracked, as known to the object, unless it is one of the module's
  let u : HO := .frz { cls := .type "list", data := .seq vs.toArray } (.lst (ns.map V.int))
  let free : Bool := ((K w.params).lookup a).isNone
  let H : Hp := onlyAt a u free
  have lenV : vs.length = ns.length := hints.length
  have small : ns.length ≤ sizeLine := Nat.le_trans hlen (by decide)
  have hS : SqL (K w.params) H a (ns.map V.int) := by
    cases e : (K w.params).lookup a with
    | none => exact Or.inl (Or.inr ⟨_, if_pos ⟨rfl, by show ((K w.params).lookup a).isNone = true; rw [e]; rfl⟩⟩)
    | some ob =>
      have e1 := (hK a ob e).symm.trans hobj
      cases Option.some.inj e1
      exact Or.inr ⟨_, vs.toArray, _, e, rfl, rfl, rfl, by rw [List.size_toArray, lenV]; exact small, by rw [List.toList_toArray]; exact rv⟩
  have hHok : HOk l.prog w H s1.heap := fun b z e => by
    rcases onlyAt_cases a u free b with n | ⟨rfl, _, y⟩
    · cases n.symm.trans e
    · cases y.symm.trans e
      exact ⟨hobj, by rw [List.length_map]; exact small, vs, _, rv, hobj⟩
  have isL : ∀ {b : Addr} {ob : Obj}, s1.heap.get? b = some ob → (∀ its n, ob.data ≠ .seq its n) → H b = none := fun {b ob} e nd => by
    rcases onlyAt_cases a u free b with n | ⟨rfl, _, _⟩
    · exact n
    · cases hobj.symm.trans e
      exact absurd rfl (nd _ _)
  have nsK : ∀ {b : Addr} {m : Str → Option Value}, s1.heap.Ns b m → (hidT s1.heap H).Ns b m := by
    rintro b m ⟨ob, es, ep, e, dt, r⟩
    exact ⟨ob, es, ep, hidT_get e (isL e fun its n z => nomatch dt.symm.trans z), dt, r⟩
  have inB : (K w.params).In (hidT s1.heap H) := fun b ob e => hidT_get (hK b ob e) (by
    rcases onlyAt_cases a u free b with n | ⟨rfl, fr, _⟩
    · exact n
    · have fr' : ((K w.params).lookup b).isNone = true := fr
      rw [e] at fr'
      cases fr')
  have hM : Mod (K w.params) mg (hidT s1.heap H) := ⟨inB, nsK G.T.g, ⟨mb, nsK G.T.b, G.T.builtins⟩, let ⟨mc, h1, h2⟩ := G.T.nolimit; ⟨mc, nsK h1, h2⟩⟩
  have e0 : Env0 l.prog w (K w.params) mg (hidT s1.heap H) callerA [] s1 H :=
    { frames := rfl, mod := hM, bs := fun b ob e => of_hidT e, bsz := Nat.le_of_eq (hidT_size _ _), funs := True.intro, frf := fun b hb => (List.not_mem_nil hb).elim, hok := hHok, bare := .of_eq hgen }
  refine codeAny_mono (law_at F S ⟨rfl, by decide, by decide⟩ D e0 (hbind s1 (.ref a)) hlen hS) fun r s2 h => ?_
  cases r with
  | error e => exact False.elim h
  | ok fl =>
    cases fl with
    | next => exact False.elim h
    | brk => exact False.elim h
    | cont => exact False.elim h
    | ret v0 =>
      obtain ⟨v, H2, os, bare, un, hok2, r2, ev⟩ := h
      have ev' : v = .bl true := ev
      rw [ev'] at r2
      have e3 : v0 = Value.bool true := r2
      rw [e3]
      refine ⟨rfl, OldK.of_keep fun b ob e => ?_, os, bare⟩
      rcases onlyAt_cases a u free b with n | ⟨rfl, _, y⟩
      · exact un.keep b ob e n List.not_mem_nil List.not_mem_nil
      · have k2 := hok2 b _ (un.frzs b _ _ y)
        cases hobj.symm.trans e
        exact k2.1
/-! ### how much there is to a piece of data, and that it can be shown -/
mutual
def wt : PyData → Nat
  | .list ds => 1 + wtAll ds
  | .tuple ds => 1 + wtAll ds
  | _ => 1
def wtAll : List PyData → Nat
  | [] => 0
  | d :: ds => wt d + wtAll ds
end
mutual
def nice (e : Nat) : PyData → Bool
  | .none => true
  | .bool _ => true
  | .int i => decide (i.natAbs < 2 ^ e)
  | .str x => decide (x.length ≤ 10) && PyData.strOk x
  | .list ds => niceAll e ds
  | .tuple ds => niceAll e ds
  | .dict _ => false
def niceAll (e : Nat) : List PyData → Bool
  | [] => true
  | d :: ds => nice e d && niceAll e ds
end
theorem niceAll_iff {e : Nat} : ∀ {ds : List PyData}, niceAll e ds = true ↔ ∀ d ∈ ds, nice e d = true
  | [] => by simp [niceAll]
  | d :: ds => by simp [niceAll, niceAll_iff (ds := ds)]
theorem wtAll_append : ∀ a b : List PyData, wtAll (a ++ b) = wtAll a + wtAll b
  | [], b => by simp [wtAll]
  | d :: a, b => by simp [wtAll, wtAll_append a b]; omega
theorem wtAll_reverse : ∀ a : List PyData, wtAll a.reverse = wtAll a
  | [] => rfl
  | d :: a => by rw [List.reverse_cons, wtAll_append, wtAll_reverse a]; simp [wtAll]; omega
theorem wt_pos (d : PyData) : 1 ≤ wt d := by cases d <;> simp [wt]
theorem wtAll_len : ∀ ds : List PyData, ds.length ≤ wtAll ds
  | [] => Nat.le_refl _
  | d :: ds => by
    have := wtAll_len ds
    have := wt_pos d
    simp only [List.length_cons, wtAll]
    omega
theorem depthAll_append : ∀ a b : List PyData, PyData.depthAll (a ++ b) = max (PyData.depthAll a) (PyData.depthAll b)
  | [], b => by simp [PyData.depthAll]
  | d :: a, b => by simp only [List.cons_append, PyData.depthAll, depthAll_append a b]; omega
theorem depthAll_le {m : Nat} : ∀ {ds : List PyData}, PyData.depthAll ds ≤ m ↔ ∀ d ∈ ds, d.depth ≤ m
  | [] => by simp [PyData.depthAll]
  | d :: ds => by
    have ih := depthAll_le (m := m) (ds := ds)
    simp only [PyData.depthAll, List.mem_cons, forall_eq_or_imp, ← ih]
    omega
theorem log_lt {e : Nat} {i : Int} (h : i.natAbs < 2 ^ e) : i.natAbs.log2 < e + 1 := by
  by_cases z : i.natAbs = 0
  · rw [z]
    exact Nat.lt_of_le_of_lt (Nat.le_of_eq (by decide : Nat.log2 0 = 0)) (Nat.succ_pos e)
  · exact Nat.lt_succ_of_lt ((Nat.log2_lt z).mpr h)
theorem shownAll_len : ∀ ds : List PyData, (PyData.shownAll ds).length = ds.length
  | [] => by simp [PyData.shownAll]
  | d :: ds => by simp [PyData.shownAll, shownAll_len ds]
mutual
theorem nice_shown {e : Nat} : ∀ d : PyData, nice e d = true → d.shown.length + 2 ≤ (e + 110) * wt d
  | .none, _ => by simp only [PyData.shown, wt]; exact Nat.le_trans (by decide : ("None" : Str).length + 2 ≤ 110) (by omega)
  | .bool b, _ => by
    simp only [PyData.shown, wt]
    cases b
    · exact Nat.le_trans (by decide : ("False" : Str).length + 2 ≤ 110) (by omega)
    · exact Nat.le_trans (by decide : ("True" : Str).length + 2 ≤ 110) (by omega)
  | .int i, h => by
    have h' : i.natAbs < 2 ^ e := by simpa [nice] using h
    have := int_text_length_le (Nat.succ_pos e) (log_lt h')
    simp only [PyData.shown, wt]
    show (Str.ofString (toString i)).length + 2 ≤ _
    rw [PyProof.Rows.ofString_len]
    omega
  | .str x, h => by
    have h' : x.length ≤ 10 ∧ PyData.strOk x = true := by simpa [nice] using h
    have h2 : ∀ c ∈ x.cps.toList, c < 16 ^ 8 := fun c hc => by
      have h3 := h'.2
      unfold PyData.strOk at h3
      have h4 := Array.all_eq_true_iff_forall_mem.mp h3 c (by simpa using hc)
      have h5 : c < 0x110000 := by simpa using h4
      exact Nat.lt_trans h5 (by decide)
    have := StrLaws.reprText_len x h2
    simp only [PyData.shown, wt]
    omega
  | .list ds, h => by
    have ih := nice_shownAll ds (by simpa [nice] using h)
    have l := listText_len_le (PyData.shownAll ds)
    rw [shownAll_len] at l
    simp only [PyData.shown, wt]
    rw [Nat.mul_add (e + 110)]
    omega
  | .tuple ds, h => by
    have ih := nice_shownAll ds (by simpa [nice] using h)
    have l := tupleText_len_le (PyData.shownAll ds)
    rw [shownAll_len] at l
    simp only [PyData.shown, wt]
    rw [Nat.mul_add (e + 110)]
    omega
  | .dict _, h => by simp [nice] at h
theorem nice_shownAll {e : Nat} : ∀ ds : List PyData, niceAll e ds = true → ((PyData.shownAll ds).map (·.length)).sum + 2 * ds.length ≤ (e + 110) * wtAll ds
  | [], _ => by simp [PyData.shownAll]
  | d :: ds, h => by
    have h' : nice e d = true ∧ niceAll e ds = true := by simpa [niceAll] using h
    have h1 := nice_shown d h'.1
    have h2 := nice_shownAll ds h'.2
    simp only [PyData.shownAll, List.map_cons, List.sum_cons, List.length_cons, wtAll]
    rw [Nat.mul_add (e + 110)]
    omega
end
mutual
theorem nice_showable {e : Nat} (he : e < 1900) : ∀ d : PyData, nice e d = true → d.showable = true
  | .none, _ => by simp [PyData.showable]
  | .bool b, _ => by simp [PyData.showable]
  | .int i, h => by
    have h' : i.natAbs < 2 ^ e := by simpa [nice] using h
    have := log_lt h'
    simp only [PyData.showable, decide_eq_true_eq]
    omega
  | .str x, h => by simp [PyData.showable]
  | .list ds, h => by simp only [PyData.showable]; exact nice_showableAll he ds (by simpa [nice] using h)
  | .tuple ds, h => by simp only [PyData.showable]; exact nice_showableAll he ds (by simpa [nice] using h)
  | .dict _, h => by simp [nice] at h
theorem nice_showableAll {e : Nat} (he : e < 1900) : ∀ ds : List PyData, niceAll e ds = true → PyData.showableAll ds = true
  | [], _ => by simp [PyData.showableAll]
  | d :: ds, h => by
    have h' : nice e d = true ∧ niceAll e ds = true := by simpa [niceAll] using h
    simp only [PyData.showableAll, nice_showable he d h'.1, nice_showableAll he ds h'.2, Bool.and_self]
end
mutual
theorem nice_lay {e : Nat} : ∀ d : PyData, nice e d = true → d.canLay0 = true
  | .none, _ => by simp [PyData.canLay0]
  | .bool b, _ => by simp [PyData.canLay0]
  | .int i, h => by simp [PyData.canLay0]
  | .str x, h => by
    have h' : x.length ≤ 10 ∧ PyData.strOk x = true := by simpa [nice] using h
    simp only [PyData.canLay0, h'.2]
  | .list ds, h => by simp only [PyData.canLay0]; exact nice_layAll ds (by simpa [nice] using h)
  | .tuple ds, h => by simp only [PyData.canLay0]; exact nice_layAll ds (by simpa [nice] using h)
  | .dict _, h => by simp [nice] at h
theorem nice_layAll {e : Nat} : ∀ ds : List PyData, niceAll e ds = true → PyData.canLayAll0 ds = true
  | [], _ => by simp [PyData.canLayAll0]
  | d :: ds, h => by
    have h' : nice e d = true ∧ niceAll e ds = true := by simpa [niceAll] using h
    simp only [PyData.canLayAll0, nice_lay d h'.1, nice_layAll ds h'.2, Bool.and_self]
end
theorem nice_shaped {e : Nat} {d : PyData} (h : nice e d = true) (hd : d.depth ≤ 64) : SeqAt.shaped d = true := by
  unfold SeqAt.shaped
  rw [nice_lay d h, decide_eq_true hd]
  rfl
mutual
theorem nice_more {e f : Nat} (hef : e ≤ f) : ∀ d : PyData, nice e d = true → nice f d = true
  | .none, _ => by simp [nice]
  | .bool b, _ => by simp [nice]
  | .int i, h => by
    have h' : i.natAbs < 2 ^ e := by simpa [nice] using h
    simp only [nice, decide_eq_true_eq]
    exact Nat.lt_of_lt_of_le h' (Nat.pow_le_pow_right (by decide) hef)
  | .str x, h => by simpa [nice] using h
  | .list ds, h => by simp only [nice]; exact nice_moreAll hef ds (by simpa [nice] using h)
  | .tuple ds, h => by simp only [nice]; exact nice_moreAll hef ds (by simpa [nice] using h)
  | .dict _, h => by simp [nice] at h
theorem nice_moreAll {e f : Nat} (hef : e ≤ f) : ∀ ds : List PyData, niceAll e ds = true → niceAll f ds = true
  | [], _ => by simp [niceAll]
  | d :: ds, h => by
    have h' : nice e d = true ∧ niceAll e ds = true := by simpa [niceAll] using h
    simp only [niceAll, nice_more hef d h'.1, nice_moreAll hef ds h'.2, Bool.and_self]
end
/-- data that is small: exponent of its numbers, weight, depth -/
structure Tiny (e W m : Nat) (d : PyData) : Prop where
  ni : nice e d = true
  we : wt d ≤ W
  de : d.depth ≤ m
theorem Tiny.mono {e W m e' W' m' : Nat} {d : PyData} (t : Tiny e W m d) (h1 : e ≤ e') (h2 : W ≤ W') (h3 : m ≤ m') : Tiny e' W' m' d :=
  ⟨nice_more h1 d t.ni, Nat.le_trans t.we h2, Nat.le_trans t.de h3⟩
theorem Tiny.shows {e W m : Nat} {d : PyData} (t : Tiny e W m d) (he : e < 1900) (hm : m ≤ 50) (hW : (e + 110) * W ≤ sizeLine) : d.showable = true ∧ d.depth ≤ 50 ∧ d.shown.length ≤ sizeLine := by
  refine ⟨nice_showable he d t.ni, Nat.le_trans t.de hm, ?_⟩
  have h1 := nice_shown d t.ni
  have h2 : (e + 110) * wt d ≤ (e + 110) * W := Nat.mul_le_mul_left _ t.we
  omega
/-- items of a piece of data -/
theorem wt_item : ∀ {ds : List PyData} {d : PyData}, d ∈ ds → wt d ≤ wtAll ds
  | x :: ds, d, h => by
    simp only [wtAll]
    rcases List.mem_cons.mp h with rfl | h
    · omega
    · have := wt_item h
      omega
theorem dpAll_len {K : PySem.W.Frag} {H : Hp} : ∀ {vs : List V} {ds : List PyData}, DpAll K H vs ds → vs.length = ds.length
  | _, _, .nil => rfl
  | _, _, .cons _ t => by simp only [List.length_cons, dpAll_len t]
theorem dpAll_get {K : PySem.W.Frag} {H : Hp} : ∀ {vs : List V} {ds : List PyData} {i : Nat} {v : V}, DpAll K H vs ds → vs[i]? = some v → ∃ d, ds[i]? = some d ∧ Dp K H v d
  | _, _, 0, v, .cons h _, e => by simp at e; subst e; exact ⟨_, rfl, h⟩
  | _, _, i + 1, v, .cons _ t, e => by
    obtain ⟨d, h1, h2⟩ := dpAll_get (i := i) (v := v) t (by simpa using e)
    exact ⟨d, by simpa using h1, h2⟩
theorem dpAll_append {K : PySem.W.Frag} {H : Hp} : ∀ {vs ws : List V} {ds es : List PyData}, DpAll K H vs ds → DpAll K H ws es → DpAll K H (vs ++ ws) (ds ++ es)
  | _, _, _, _, .nil, h => h
  | _, _, _, _, .cons a t, h => .cons a (dpAll_append t h)
theorem dpAll_take {K : PySem.W.Frag} {H : Hp} : ∀ {vs : List V} {ds : List PyData} (n : Nat), DpAll K H vs ds → DpAll K H (vs.take n) (ds.take n)
  | _, _, 0, _ => .nil
  | _, _, _ + 1, .nil => .nil
  | _, _, n + 1, .cons a t => .cons a (dpAll_take n t)
theorem dpAll_drop {K : PySem.W.Frag} {H : Hp} : ∀ {vs : List V} {ds : List PyData} (n : Nat), DpAll K H vs ds → DpAll K H (vs.drop n) (ds.drop n)
  | _, _, 0, h => h
  | _, _, _ + 1, .nil => .nil
  | _, _, n + 1, .cons _ t => dpAll_drop n t
theorem dpAll_reverse {K : PySem.W.Frag} {H : Hp} : ∀ {vs : List V} {ds : List PyData}, DpAll K H vs ds → DpAll K H vs.reverse ds.reverse
  | _, _, .nil => .nil
  | _, _, .cons a t => by
    rw [List.reverse_cons, List.reverse_cons]
    exact dpAll_append (dpAll_reverse t) (.cons a .nil)
/-! ### cuts: what is known behind a test or an expression, said once -/
section
variable {X : Cx}
theorem pt_cut {e : Expr} {t : TT} (h : PT X e t) : PT X e (fun σ H Q => ∃ G : Bool → Hp → Prop, t σ H G ∧ ∀ b J, G b J → Q b J) :=
  ⟨fun pins s σ H Q I ⟨G, g, q⟩ => thn (h.run pins s σ H G I g) fun b s1 ⟨J, I1, z⟩ => ⟨J, I1, q b J z⟩⟩
theorem pe_cut {e : Expr} {t : TE} (h : PE X e t) : PE X e (fun σ H Q => ∃ G : V → Hp → Prop, t σ H G ∧ ∀ v J, G v J → Q v J) :=
  ⟨fun pins s σ H Q I ⟨G, g, q⟩ => thn (h.run pins s σ H G I g) fun u s1 ⟨v, J, I1, r, z⟩ => ⟨v, J, I1, r, q v J z⟩⟩
/-! ### tuples: slices and sums, whatever object they are -/
theorem cut_whole (xs : List V) (lo hi : Option Int) (h : HT.sIx xs.length 0 lo = 0 ∧ HT.sIx xs.length xs.length hi = xs.length) : cutV xs lo hi = xs := by
  unfold cutV
  rw [h.1, h.2, List.drop_zero, Nat.sub_zero, List.take_of_length_le (Nat.le_refl _)]
def rCutS (K : PySem.W.Frag) : V → Option Int → Option Int → Hp → VK → Prop := fun x lo hi H Q => ∃ (a : Addr) (xs : List V), x = .ref a ∧ SqT K H a xs ∧ ∀ (t : Addr) (J : Hp), SqT K J t (cutV xs lo hi) → Same H J → Q (.ref t) J
theorem sl_tupS : SlR X (rCutS X.K) := by
  intro pins s σ H x v vl vu lo hi sl Q I rx hs pl pu h
  obtain ⟨a, xs, rfl, hx, q⟩ := h
  refine sl_tupA pins s σ H _ v vl vu lo hi sl Q I rx hs pl pu ⟨a, xs, rfl, hx, fun z => q a H ?_ (Same.refl H), fun _ p hp => q p _ (SqT.of upd_same) fun b o e => ?_⟩
  · rw [cut_whole xs lo hi z]
    exact hx
  · rw [upd_ne (ne_of_none e hp)]
    exact e
def rCatS (K : PySem.W.Frag) : R2 := fun x y H Q => ∃ (a b : Addr) (xs ys : List V), x = .ref a ∧ y = .ref b ∧ SqT K H a xs ∧ SqT K H b ys ∧ xs.length + ys.length ≤ sizeLine ∧
  ∀ (t : Addr) (J : Hp), SqT K J t (xs ++ ys) → Same H J → Q (.ref t) J
theorem op_catS : OpR X (binaryOp .Add) (rCatS X.K) := by
  intro pins s σ H x y v u Q I rx ry h
  obtain ⟨a, b, xs, ys, rfl, rfl, ha, hb, hz, q⟩ := h
  refine op_catA pins s σ H _ _ v u Q I rx ry ⟨a, b, xs, ys, rfl, rfl, ha, hb, hz, fun e => q b H ?_ (Same.refl H), fun _ e => q a H ?_ (Same.refl H), fun _ _ p hp => q p _ (SqT.of upd_same) fun c o e => ?_⟩
  · rw [e]
    exact hb
  · rw [e, List.append_nil]
    exact ha
  · rw [upd_ne (ne_of_none e hp)]
    exact e
end
/-! ### t[::-1] of a tuple -/
section
variable {prog : Program} {w : World} {A : Around} {E : Value → Shared → Prop} {s : Shared}
theorem back_parts (n : Nat) : Builtin.Slice.sliceAdjust none none (-1) (n : Int) = ((n : Int) - 1, -1) ∧ Builtin.Slice.slicePlaces ((n : Int) - 1) (-1) (-1) = n := by
  constructor
  · unfold Builtin.Slice.sliceAdjust
    simp
  · unfold Builtin.Slice.slicePlaces
    have h1 : ¬ ((-1 : Int) > 0) := by omega
    have h2 : -(-1 : Int) = 1 := rfl
    rw [if_neg h1, h2, Int.ediv_one]
    split <;> omega
theorem fm_congr {α β : Type} {f g : α → Option β} : ∀ l : List α, (∀ x ∈ l, f x = g x) → l.filterMap f = l.filterMap g
  | [], _ => rfl
  | x :: l, h => by
    rw [List.filterMap_cons, List.filterMap_cons, h x List.mem_cons_self, fm_congr l fun y hy => h y (List.mem_cons_of_mem _ hy)]
theorem back_pick (xs : Array Value) : ((List.range xs.size).filterMap fun (k : Nat) => xs[(((xs.size : Int) - 1) + (k : Int) * (-1)).toNat]?).toArray = xs.toList.reverse.toArray := by
  have g := HT.pick_gen xs.reverse 0 xs.size
  rw [List.drop_zero, List.take_of_length_le (by simp)] at g
  rw [Array.toList_reverse] at g
  rw [← g]
  refine congrArg List.toArray (fm_congr _ fun k hk => ?_)
  have hk' : k < xs.size := List.mem_range.mp hk
  have e1 : (((xs.size : Int) - 1) + (k : Int) * (-1)).toNat = xs.size - 1 - k := by omega
  have e2 : (((0 : Nat) : Int) + (k : Int) * 1).toNat = k := by omega
  rw [e1, e2, Array.getElem?_reverse hk']
theorem back_applied {c : Addr} {st : Value} {n : Nat} {Q : Int × Int × Nat → Shared → Prop} (hS : s.heap.IsSliceOf c .none .none st) (hp : IsPart st (some (-1))) (h : Q ((n : Int) - 1, -1, n) s) :
    wpAny (model prog w) A (Builtin.Slice.sliceApplied (.ref c) (pure (n : Int))) Q E s := by
  obtain ⟨ob, o1, o2, o3⟩ := id hS
  unfold Builtin.Slice.sliceApplied Builtin.Slice.sliceFields
  refine wpAny_bind (wpAny_bind (wpAny_field o1 o3 (x := .none) rfl (wpAny_bind (wpAny_field o1 o3 (x := .none) rfl (wpAny_bind (wpAny_field o1 o3 (x := st) rfl (wpAny_pure ?_)))))))
  refine wpAny_bind (HT.slicePart_ hp ?_)
  show wpAny _ _ (if ((-1 : Int) == 0) = true then _ else _) _ _ s
  rw [if_neg (by decide)]
  refine wpAny_bind (slicePart_none (wpAny_bind (slicePart_none (wpAny_bind (wpAny_pure ?_)))))
  show wpAny _ _ (match Builtin.Slice.sliceAdjust none none (-1) (n : Int) with | (lo, hi) => pure (lo, (-1 : Int), Builtin.Slice.slicePlaces lo hi (-1))) _ _ s
  rw [(back_parts n).1]
  show wpAny _ _ (pure ((n : Int) - 1, (-1 : Int), Builtin.Slice.slicePlaces ((n : Int) - 1) (-1) (-1))) _ _ s
  rw [(back_parts n).2]
  exact wpAny_pure h
theorem getItem_back {t c : Addr} {its : Array Value} {st : Value} {Q : Value → Shared → Prop} (hT : IsTup s.heap t its) (hS : s.heap.IsSliceOf c .none .none st) (hp : IsPart st (some (-1))) (hz : its.size ≤ sizeLine)
    (h : Q (.ref s.heap.objs.size) { s with heap := s.heap.push { cls := .type "tuple", data := .seq its.toList.reverse.toArray } }) : wpAny (model prog w) A (getItem (.ref t) (.ref c)) Q E s := by
  have fits : sizeOk (.seq its.toList.reverse.toArray) := by
    show its.toList.reverse.toArray.size ≤ sizeLine
    rw [List.size_toArray, List.length_reverse, Array.length_toList]
    exact hz
  obtain ⟨ob, o1, o2, o3⟩ := id hS
  have isS : s.TypeIs (.ref c) "slice" := ⟨ob, o1, o2⟩
  unfold getItem
  try with_reducible refine wpAny_holding ?_
  first | refine wpAny_bind (wpAny_pure ?_) | skip
  refine wpAny_bind (wpAny_sequenceKey hT.typeIs (by decide) ?_)
  have sl := PyProof.Rows.slot_tuple_getitem
  refine wpAny_bind (wpAny_callSpecial?_slot (name := Str.ofString "__getitem__") hT.typeIs sl (wpAny_call_entry sl hT.typeIs PyProof.Rows.entry_tuple_getitem ?_ (PyProof.Rows.args_tuple_getitem _ _)))
  show wpAny _ _ (Builtin.Tuple.tupleItemsOf (.ref t) >>= _) _ _ s
  refine wpAny_bind (PyProof.Rows.tupleItemsOf_ hT (wpAny_bind (wpAny_typeOf isS ?_)))
  rw [if_pos (by decide)]
  refine wpAny_bind (back_applied hS hp ?_)
  show wpAny _ _ (if ((((its.size : Nat) : Int) - 1 == 0 && (-1 : Int) == 1 && its.size == its.size) = true) then _ else _) _ _ s
  have no : ¬ ((((its.size : Nat) : Int) - 1 == 0 && (-1 : Int) == 1 && its.size == its.size) = true) := by simp
  rw [if_neg no, back_pick]
  first
    | exact wpAny_bind (m := Builtin.Tuple.tupleExact _) (wpAny_newObj_type (wpAny_pure ⟨_, rfl, wpAny_pure h⟩) fits)
    | exact wpAny_bind (m := Builtin.Tuple.tupleExact _) (wpAny_newObj_type (wpAny_bind (wpAny_pure (wpAny_pure ⟨_, rfl, wpAny_pure h⟩))) fits)
    | exact wpAny_bind (wpAny_bind (m := Builtin.Tuple.tupleExact _) (wpAny_newObj_type (wpAny_pure (wpAny_pure ⟨_, rfl, wpAny_pure h⟩)) fits))
    | exact wpAny_bind (wpAny_bind (m := Builtin.Tuple.tupleExact _) (wpAny_newObj_type (wpAny_pure ⟨_, rfl, wpAny_pure h⟩) fits))
end
section
variable {X : Cx}
def tBackT (K : PySem.W.Frag) (te : TE) : TE := fun σ H Q => te σ H fun x J => ∃ (a : Addr) (xs : List V), x = .ref a ∧ SqT K J a xs ∧ ∀ p, J p = none → Q (.ref p) (upd J p (.tup xs.reverse))
theorem pe_revT {e : Expr} {te : TE} {k : Nat} {p1 p2 p3 pos : Pos} (he : PE X e te) : PE X (.Subscript e (.Slice none none (some (.UnaryOp .USub (.Constant (.int 1) k p1) p2)) p3) pos) (tBackT X.K te) := by
  refine ⟨fun pins s σ H Q I h => Subscript_ (thn (he.run pins s σ H _ I h) fun v s1 ⟨x, H1, I1, r1, a, xs, ex, hx, q⟩ => ?_)⟩
  subst ex
  cases r1
  have step : PO X (some (.UnaryOp .USub (.Constant (.int 1) k p1) p2)) _ := po_some (pe_un un_neg pe_int)
  refine wpAny_Slice (thn (po_none.run pins s1 σ H1 (fun o L => o = none ∧ L = H1) I1 ⟨rfl, rfl⟩) fun vl s2 ⟨l, H2, I2, pl, el, e2⟩ => ?_)
  subst el e2
  refine thn (po_none.run pins s2 σ H2 (fun o L => o = none ∧ L = H2) I2 ⟨rfl, rfl⟩) fun vu s3 ⟨u, H3, I3, pu, eu, e3⟩ => ?_
  subst eu e3
  refine thn (step.run pins s3 σ H3 (fun o L => o = some (-1) ∧ L = H3) I3 ⟨1, rfl, -1, rfl, rfl, rfl⟩) fun vs s4 ⟨o, H4, I4, ps, eo, e4⟩ => ?_
  subst eo e4
  cases pl
  cases pu
  have I5 : Inv X pins σ H4 { s4 with heap := s4.heap.push { cls := .type "slice", data := .fields #[.none, .none, vs] } } := I4.kept (t' := s4.toks) fun b ob z => Heap.get?_push_of_some _ z
  obtain ⟨its, r, isT, hz⟩ := I5.tuple hx
  have hlen := r.length
  show wpAny (model X.prog X.w) X.A (subscriptTail e (.Slice none none (some (.UnaryOp .USub (.Constant (.int 1) k p1) p2)) p3) (.ref a) (.ref s4.heap.objs.size)) (EP X pins σ Q) X.xe { s4 with heap := s4.heap.push { cls := .type "slice", data := .fields #[.none, .none, vs] } }
  refine tail_any (ops := [.ref a, .ref s4.heap.objs.size]) isT.typeIs PyProof.Rows.slot_tuple_getitem.lookup ?_ (by with_unfolding_all rfl)
  refine getItem_back isT (Heap.IsSliceOf.new _ .none .none vs) ps (by rw [List.size_toArray]; omega) ?_
  refine ⟨.ref _, _, I5.laid (t' := s4.toks) (o := .tup xs.reverse) (fun b ob z => Heap.get?_push_of_some _ z) (Nat.le_refl _) ?_, rfl, q _ (I5.hok.fresh (Nat.le_refl _))⟩
  exact ⟨by rw [List.length_reverse]; exact hz, its.reverse, r.reverse, _, Heap.get?_push_size _ rfl, rfl, _, rfl⟩
end
/-! ### x in a tuple of data -/
section
variable {X : Cx}
def rInT (K : PySem.W.Frag) : R2 := fun x y H Q => ∃ d ds, Dp K H x d ∧ Dp K H y (.tuple ds) ∧ SeqAt.shaped d = true ∧ SeqAt.shaped (.tuple ds) = true ∧ Q (.bl (ds.any fun z => PyData.eqv z d)) H
theorem op_inT (hu : X.A.units + 65 < cLine) : OpR X (compareOp .In) (rInT X.K) := by
  intro pins s σ H x y v u Q I rx ry h
  obtain ⟨d, ds, hd, he, sd, se, q⟩ := h
  obtain ⟨as, r1⟩ := Dp.reads I d x v hd rx
  obtain ⟨bs, r2⟩ := Dp.reads I (.tuple ds) y u he ry
  exact SeqAt.in_tuple_reads r2 r1 (SeqAt.canLay_of_shaped se) (SeqAt.canLay_of_shaped sd) (room_in_shaped sd hu) ⟨.bl _, H, I, rfl, q⟩
end
/-- a tuple of the module's own -/
def TupOf (o : Obj) (xs : List V) : Prop := ∃ (its : Array Value) (n : Nat), o.cls = .type "tuple" ∧ o.data = .seq its n ∧ its.size ≤ sizeLine ∧ Vals xs its.toList
theorem TupOf.sq {K : PySem.W.Frag} {a : Addr} {o : Obj} {xs : List V} (t : TupOf o xs) (h : K.lookup a = some o) : SqT K (fun _ => none) a xs := by
  obtain ⟨its, n, c, d, z, r⟩ := t
  exact Or.inr ⟨o, its, n, h, c, d, z, r⟩
theorem sq_any {K : PySem.W.Frag} {H : Hp} {a : Addr} {xs : List V} (h : SqT K (fun _ => none) a xs) : SqT K H a xs := sameT (fun _ _ z => by cases z) h
theorem hu65 {A : Around} {k : Nat} (hr : Room k A) : A.units + 65 < cLine := by
  have := hr.un
  omega
/-! ### rules with the written part said, for what stands in a comprehension -/
section
variable {X : Cx}
def rLenK (K : PySem.W.Frag) : List V → Hp → VK → Prop := fun xs H Q => ∃ p ys, xs = [V.ref p] ∧ (SqL K H p ys ∨ SqT K H p ys) ∧ Q (.int ys.length) H
theorem lenK (K : PySem.W.Frag) (h : X.K = K) : CallR X (.builtin "len") (rLenK K) := h ▸ call_len_seq
theorem ixLK (K : PySem.W.Frag) (h : X.K = K) : IxR X (rIxL K) := h ▸ ix_list
theorem ixTK (K : PySem.W.Frag) (h : X.K = K) : IxR X (rIxT K) := h ▸ ix_tup
theorem isDK (K : PySem.W.Frag) (T : String) (hT : T ∈ ["tuple", "int", "bool", "str", "list"]) (h : X.K = K) : CallR X (.builtin "isinstance") (rIsD K T) := h ▸ call_isD T hT
theorem catSK (K : PySem.W.Frag) (h : X.K = K) : OpR X (binaryOp .Add) (rCatS K) := h ▸ op_catS
theorem inK (K : PySem.W.Frag) (h : X.K = K) : OpR X (compareOp .In) (rIn K false) := h ▸ op_in_seq
theorem notInK (K : PySem.W.Frag) (h : X.K = K) : OpR X (compareOp .NotIn) (rIn K true) := h ▸ op_notIn_seq
theorem slSK (K : PySem.W.Frag) (h : X.K = K) : SlR X (rCutS K) := h ▸ sl_tupS
end
/-! ### what may change while a script is drawn from, and while code runs that has tables -/
/-- the heap without the tables of code: where data stands -/
def offT (H : Hp) : Hp := fun b => match H b with
  | some (.tbl _) => none
  | o => o
theorem offT_at {b : Addr} {H : Hp} {o : HO} (h : H b = some o) (nt : ∀ q, o ≠ .tbl q := by intro _ z; cases z) : offT H b = some o := by
  unfold offT
  rw [h]
  cases o <;> first | rfl | exact absurd rfl (nt _)
theorem offT_some {b : Addr} {H : Hp} {o : HO} (h : offT H b = some o) : H b = some o ∧ ∀ q, o ≠ .tbl q := by
  unfold offT at h
  cases e : H b with
  | none => rw [e] at h; cases h
  | some u =>
    rw [e] at h
    cases u <;> first | (cases h; done) | (cases h; exact ⟨rfl, fun _ z => by cases z⟩)
/-- the heap without p and the tables of code: where data stands that does not change -/
def off (p : Addr) (H : Hp) : Hp := fun b => if b = p then none else offT H b
theorem off_at {p b : Addr} {H : Hp} {o : HO} (n : b ≠ p) (h : H b = some o) (nt : ∀ q, o ≠ .tbl q := by intro _ z; cases z) : off p H b = some o := by
  unfold off
  rw [if_neg n]
  exact offT_at h nt
theorem off_same {p : Addr} {H : Hp} : off p H p = none := if_pos rfl
theorem off_none {p b : Addr} {H : Hp} (h : H b = none) : off p H b = none := by
  unfold off offT
  rw [h]
  split <;> rfl
theorem off_some {p b : Addr} {H : Hp} {o : HO} (h : off p H b = some o) : b ≠ p ∧ H b = some o ∧ ∀ q, o ≠ .tbl q := by
  by_cases e : b = p
  · rw [e, off_same] at h
    cases h
  · unfold off at h
    rw [if_neg e] at h
    exact ⟨e, offT_some h⟩
theorem off_in {p : Addr} {H : Hp} : Same (off p H) H := fun b o h => (off_some h).2.1
theorem offT_in {H : Hp} : Same (offT H) H := fun b o h => (offT_some h).1
/-- tables only grow -/
def Tabs (H J : Hp) : Prop := ∀ b q, H b = some (.tbl q) → ∃ q', J b = some (.tbl q') ∧ (TriplesOk q.toList → TriplesOk q'.toList)
theorem Tabs.trans {H J L : Hp} (a : Tabs H J) (b : Tabs J L) : Tabs H L := fun c q e => let ⟨q', e', f⟩ := a c q e; let ⟨q2, e2, f2⟩ := b c q' e'; ⟨q2, e2, fun z => f2 (f z)⟩
theorem Tabs.of_same {H J : Hp} (h : Same H J) : Tabs H J := fun b q e => ⟨q, h _ _ e, id⟩
theorem Tabs.tab {H J : Hp} (h : Tabs H J) {P : Addr} (g : GxR.TabG H P) : GxR.TabG J P := let ⟨q, e, z⟩ := g; let ⟨q', e', f⟩ := h P q e; ⟨q', e', f z⟩
theorem Tabs.put {q : Addr} {G J : Hp} {o : HO} (h : Tabs G J) (n : G q = none) : Tabs G (upd J q o) := fun b x e => by
  rw [upd_ne (ne_of_none e n)]
  exact h b x e
/-- all data is as it was, tables of code may have grown -/
structure Grow (H J : Hp) : Prop where
  s : Same (offT H) (offT J)
  t : Tabs H J
theorem Grow.refl (H : Hp) : Grow H H := ⟨Same.refl _, Tabs.of_same (Same.refl _)⟩
theorem Grow.trans {H J L : Hp} (a : Grow H J) (b : Grow J L) : Grow H L := ⟨a.s.trans b.s, a.t.trans b.t⟩
theorem Grow.of_same {H J : Hp} (h : Same H J) : Grow H J := ⟨fun b u e => let z := offT_some e; offT_at (h _ _ z.1) z.2, Tabs.of_same h⟩
theorem Grow.new {q : Addr} {H : Hp} {o : HO} (h : H q = none) : Grow H (upd H q o) := Grow.of_same fun b u e => by
  rw [upd_ne (ne_of_none e h)]
  exact e
theorem Grow.at {a : Addr} {H J : Hp} {o : HO} (k : Grow H J) (h : H a = some o) (nt : ∀ q, o ≠ .tbl q := by intro _ z; cases z) : J a = some o := (offT_some (k.s a o (offT_at h nt))).1
theorem Grow.write {q : Addr} {G J : Hp} {o : HO} (k : Grow G J) (h : G q = none) : Grow G (upd J q o) :=
  ⟨fun b u e => let z := offT_some e; offT_at (by rw [upd_ne (ne_of_none z.1 h)]; exact k.at z.1 z.2) z.2, k.t.put h⟩
theorem Grow.tabbed {P : Addr} {H J : Hp} (g : GxR.TabG H P) (h : GxR.Tabbed P H J) : Grow H J := by
  obtain ⟨⟨q', e', z'⟩, k⟩ := h
  obtain ⟨q, e, _⟩ := g
  refine ⟨fun b u eb => ?_, fun b x eb => ?_⟩
  · have y := offT_some eb
    have bp : b ≠ P := fun w => by
      rw [w, e] at y
      exact y.2 q (Option.some.inj y.1).symm
    exact offT_at (by rw [k b bp]; exact y.1) y.2
  · by_cases bp : b = P
    · rw [bp]
      exact ⟨q', e', fun _ => z'⟩
    · exact ⟨x, by rw [k b bp]; exact eb, id⟩
theorem Grow.free {q : Addr} {H J : Hp} (k : Grow H J) (h : J q = none) : H q = none := by
  cases e : H q with
  | none => rfl
  | some o =>
    cases o with
    | tbl x =>
      obtain ⟨x', e', _⟩ := k.t q x e
      rw [e'] at h
      cases h
    | _ =>
      rw [k.at e] at h
      cases h
theorem Grow.seq {K : PySem.W.Frag} {a : Addr} {H J : Hp} {xs : List V} (k : Grow H J) (h : SqL K H a xs) : SqL K J a xs := by
  rcases h with (h | ⟨o, h⟩) | h
  · exact Or.inl (Or.inl (k.at h))
  · exact Or.inl (Or.inr ⟨o, k.at h⟩)
  · exact Or.inr h
theorem Grow.tup {K : PySem.W.Frag} {a : Addr} {H J : Hp} {xs : List V} (k : Grow H J) (h : SqT K H a xs) : SqT K J a xs := by
  rcases h with (h | ⟨o, h⟩) | h
  · exact Or.inl (Or.inl (k.at h))
  · exact Or.inl (Or.inr ⟨o, k.at h⟩)
  · exact Or.inr h
/-- all but p and the tables is as it was, and p's first item is the same object -/
structure Keep (p : Addr) (H J : Hp) : Prop where
  s : Same (off p H) (off p J)
  h : ∀ (l : Addr) (r : List V), H p = some (.lst (.ref l :: r)) → ∃ r', J p = some (.lst (.ref l :: r'))
  t : Tabs H J
theorem Keep.refl (p : Addr) (H : Hp) : Keep p H H := ⟨Same.refl _, fun _ r h => ⟨r, h⟩, Tabs.of_same (Same.refl _)⟩
theorem Keep.trans {p : Addr} {H J L : Hp} (a : Keep p H J) (b : Keep p J L) : Keep p H L := ⟨a.s.trans b.s, fun l r h => let ⟨r', h'⟩ := a.h l r h; b.h l r' h', a.t.trans b.t⟩
theorem Keep.put {p l : Addr} {H : Hp} {r r' : List V} (h : H p = some (.lst (.ref l :: r))) : Keep p H (upd H p (.lst (.ref l :: r'))) := by
  refine ⟨fun b u e => ?_, fun m z e => ?_, fun b q e => ?_⟩
  · have q := off_some e
    exact off_at q.1 (by rw [upd_ne q.1]; exact q.2.1) q.2.2
  · rw [h] at e
    cases e
    exact ⟨r', upd_same⟩
  · have n : b ≠ p := fun z => by
      rw [z, h] at e
      cases e
    exact ⟨q, by rw [upd_ne n]; exact e, id⟩
theorem Keep.of_grow {p : Addr} {H J : Hp} (g : Grow H J) : Keep p H J := by
  refine ⟨fun b u e => ?_, fun l r e => ⟨r, g.at e⟩, g.t⟩
  have z := off_some e
  exact off_at z.1 (g.at z.2.1 z.2.2) z.2.2
theorem Keep.of_same {p : Addr} {H J : Hp} (h : Same H J) : Keep p H J := Keep.of_grow (Grow.of_same h)
theorem Keep.new {p q : Addr} {H : Hp} {o : HO} (h : H q = none) : Keep p H (upd H q o) := Keep.of_same fun b u e => by
  rw [upd_ne (ne_of_none e h)]
  exact e
theorem Keep.at {p a : Addr} {H J : Hp} {o : HO} (k : Keep p H J) (n : a ≠ p) (h : H a = some o) (nt : ∀ q, o ≠ .tbl q := by intro _ z; cases z) : J a = some o :=
  (off_some (k.s a o (off_at n h nt))).2.1
/-- an object that was not yet there is changed -/
theorem Keep.write {p q : Addr} {G J : Hp} {o : HO} (k : Keep p G J) (h : G q = none) (n : q ≠ p) : Keep p G (upd J q o) := by
  refine ⟨fun b u e => ?_, fun m r e => ?_, k.t.put h⟩
  · have z := off_some e
    exact off_at z.1 (by rw [upd_ne (ne_of_none z.2.1 h)]; exact k.at z.1 z.2.1 z.2.2) z.2.2
  · obtain ⟨r', q⟩ := k.h m r e
    exact ⟨r', by rw [upd_ne n.symm]; exact q⟩
theorem seq_off {K : PySem.W.Frag} {p a : Addr} {H : Hp} {xs : List V} (n : a ≠ p) (h : SqL K H a xs) : SqL K (off p H) a xs := by
  rcases h with (h | ⟨o, h⟩) | h
  · exact Or.inl (Or.inl (off_at n h))
  · exact Or.inl (Or.inr ⟨o, off_at n h⟩)
  · exact Or.inr h
theorem Keep.seq {K : PySem.W.Frag} {p a : Addr} {H J : Hp} {xs : List V} (k : Keep p H J) (n : a ≠ p) (h : SqL K H a xs) : SqL K J a xs := off_in.seq (k.s.seq (seq_off n h))
theorem tup_off {K : PySem.W.Frag} {p a : Addr} {H : Hp} {xs ys : List V} (hp : H p = some (.lst ys)) (h : SqT K H a xs) : SqT K (off p H) a xs := by
  rcases h with (h | ⟨o, h⟩) | h
  · exact Or.inl (Or.inl (off_at (ne_of h hp (by intro z; cases z)) h))
  · exact Or.inl (Or.inr ⟨o, off_at (ne_of h hp (by intro z; cases z)) h⟩)
  · exact Or.inr h
/-! ### tuple(e for x in range(..) if t): numbers, told by the place -/
section
variable {X : Cx}
theorem cr_rangeOne : CallR X (.type "range") (fun vs H Q => ∃ j : Int, vs = [.int j] ∧ ∀ p, H p = none → Q (.ref p) (upd H p (.rng 0 j))) := by
  intro pins s σ H vs us Q I r h
  obtain ⟨j, rfl, q⟩ := h
  obtain ⟨u, rfl, t, rfl⟩ := vals1 r
  refine call_range_1 ⟨.ref s.heap.objs.size, upd H s.heap.objs.size (.rng 0 j), I.laid (t' := s.toks + 1 + 1) (fun b o e => Heap.get?_push_of_some _ e) (Nat.le_refl _) ?_, rfl, q _ (I.hok.fresh (Nat.le_refl _))⟩
  exact ⟨s.toks, t, s.toks + 1, Heap.get?_push_size _ rfl⟩
theorem cr_rangeTwo : CallR X (.type "range") (fun vs H Q => ∃ i j : Int, vs = [.int i, .int j] ∧ ∀ p, H p = none → Q (.ref p) (upd H p (.rng i j))) := by
  intro pins s σ H vs us Q I r h
  obtain ⟨i, j, rfl, q⟩ := h
  obtain ⟨u1, u2, rfl, ⟨t, rfl⟩, ⟨u, rfl⟩⟩ := vals2 r
  refine call_range_2 ⟨.ref s.heap.objs.size, upd H s.heap.objs.size (.rng i j), I.laid (t' := s.toks + 1) (fun b o e => Heap.get?_push_of_some _ e) (Nat.le_refl _) ?_, rfl, q _ (I.hok.fresh (Nat.le_refl _))⟩
  exact ⟨t, u, s.toks, Heap.get?_push_size _ rfl⟩
end
theorem vals_at {f : Nat → Int} : ∀ (l : List Nat) (us : List Value), us.length = l.length → (∀ (j : Nat) (v : Value), us[j]? = some v → ∃ i, l[j]? = some i ∧ ∃ t, v = .int (f i) t) → Vals (l.map fun i => V.int (f i)) us
  | [], [], _, _ => .nil
  | [], _ :: _, h, _ => by simp at h
  | _ :: _, [], h, _ => by simp at h
  | i :: l, u :: us, h, g => by
    obtain ⟨i', e, t, ht⟩ := g 0 u rfl
    have e' : i = i' := Option.some.inj e
    rw [List.map_cons]
    refine .cons (by rw [e']; exact ⟨t, ht⟩) (vals_at l us (by simpa using h) fun j v hv => ?_)
    obtain ⟨k, e2, z⟩ := g (j + 1) v hv
    exact ⟨k, e2, z⟩
/-- the tests and the element of a generator expression, at its i-th place, wherever its frame stands -/
def ElemOk (X : Cx) (scope : Scope) (x : Str) (ifs : List Expr) (elt : Expr) (lo : Int) (n : Nat) (pz : Nat → Bool) (f : Nat → Int) (P : Addr) (s1 : Shared) : Prop :=
  ∀ (cenv : Env) (A' : Around) (E' : Value → Shared → Prop) (i : Nat) (t : Tok) (s2 : Shared) (m2 : Str → Option Value), i < n → cenv.scope = scope → cenv.cells = cloFrom X.env.cells scope.names [] → A'.handled = none →
    s2.heap.Ns cenv.locals m2 → m2 x = some (.int (lo + i) t) → (∀ b o, b ≠ P → s1.heap.get? b = some o → s2.heap.get? b = some o) →
      wpAny (model X.prog X.w) A' (forIn ifs true fun c r => if r = true then do let ok ← isTrue c cenv (eval c cenv); pure (ForInStep.yield ok) else pure (ForInStep.yield r)) (fun ok s3 => ok = pz i ∧ PySem.Keeps s2 s3) E' s2 ∧
      (pz i = true → wpAny (model X.prog X.w) A' (eval elt cenv) (fun y s3 => (∃ u, y = .int (f i) u) ∧ PySem.Keeps s2 s3) E' s2)
def tTupG (X : Cx) (P : Addr) (scope : Scope) (x : Str) (ifs : List Expr) (elt : Expr) (te : TE) : TE := fun σ H Q => te σ H fun v H1 => ∃ (r : Addr) (lo hi : Int) (pz : Nat → Bool) (f : Nat → Int), v = .ref r ∧ H1 r = some (.rng lo hi) ∧ -(2 ^ 62) ≤ lo ∧ lo < 2 ^ 62 ∧ -(2 ^ 62) ≤ hi ∧ hi < 2 ^ 62 ∧
  (hi - lo).toNat ≤ sizeLine ∧ GxR.TabG H1 P ∧ (∀ pins s1, Inv X pins σ H1 s1 → ElemOk X scope x ifs elt lo (hi - lo).toNat pz f P s1) ∧
  ∀ (t : Addr) (H2 : Hp), GxR.Tabbed P H1 H2 → H2 t = none → Q (.ref t) (upd H2 t (.tup (((List.range (hi - lo).toNat).filter pz).map fun i => V.int (f i))))
section
variable {X : Cx}
theorem pe_tupG {c P : Addr} {elt iter : Expr} {ifs : List Expr} {x : Str} {px p pos gpos : Pos} {scope : Scope} {te : TE} {k : Nat}
    (hr : Room k X.A) (hg : Gl X "tuple") (hm : X.mg "tuple" = none) (TB : GxR.TabB X.base X.mg c P) (hcode : X.env.code = .ref c) (S : GxR.GenS X.env scope x) (hi : PE X iter te) (hs : ∀ v, genFold iter X.env v = pure v)
    (hc : X.calm = true) (he : starEach [.GeneratorExp elt [⟨.Name x px, iter, ifs, 0⟩] scope gpos] X.env = (false, eval (.GeneratorExp elt [⟨.Name x px, iter, ifs, 0⟩] scope gpos) X.env) :: starEach [] X.env := by rfl) :
    PE X (.Call (.Name "tuple" p) [.GeneratorExp elt [⟨.Name x px, iter, ifs, 0⟩] scope gpos] [] pos) (tTupG X P scope x ifs elt te) := by
  refine ⟨fun pins s σ H Q I h => ?_⟩
  refine wpAny_Call_Name_kw (ld_blt I hg hm (show bootBuiltins "tuple" = some (.type "tuple") by decide +kernel) ?_)
  refine PyProof.Rows.callWith_type1 ?_ he (by rfl)
  rw [he]
  show wpAny _ _ (spliced ((false, eval (.GeneratorExp elt [⟨.Name x px, iter, ifs, 0⟩] scope gpos) X.env) :: backTo pos (starEach [] X.env))) _ _ s
  refine Calls.spliced_cons ?_
  refine wpAny_GeneratorExp_walksQ (I.ok.hd hc) S.co (closure_ok S.free) S.cell S.dot S.loc S.kind (by have := hr.dp; omega) ?_ hs
  refine thn (hi.run pins s σ H _ I h) fun xv s1 ⟨v, H1, I1, r1, r, lo, hi', pz, f, ev, hR, b1, b2, b3, b4, hz, ⟨ps, hP, ht⟩, hE, q⟩ => ?_
  subst ev
  cases r1
  obtain ⟨ta, tb, tc, hRo⟩ := I1.hok r _ hR
  refine wpAny_pyIter_range hRo (small_one b1 b2 b3 b4) ?_
  have hn : Builtin.Range.rangeSize lo hi' 1 = ((hi' - lo).toNat : Int) := by
    rw [rangeSize_one]
    split <;> omega
  rw [hn]
  generalize hO : ({ cls := .type "range_iterator", data := .fields #[rawInt lo, rawInt ((hi' - lo).toNat : Int), rawInt 1] } : Obj) = ob
  have hIt : IsRangeIter (s1.heap.push ob) s1.heap.objs.size lo ((hi' - lo).toNat : Int) 1 := by
    rw [← hO]
    exact Heap.get?_push_size _ rfl
  have gP : s1.heap.get? P = some { cls := .none, data := .fields ps } := I1.hok P _ hP
  have Plt : P < s1.heap.objs.size := Heap.lt_size gP
  have gP2 : (s1.heap.push ob).get? P = some { cls := .none, data := .fields ps } := Heap.get?_push_of_some _ gP
  have cd : PySem.W.CodeHd (s1.heap.push ob) c P := TB.code.keeps fun b u e => Heap.get?_push_of_some _ (I1.bk b u e)
  have lim2 : (s1.heap.push ob).NoLimit := I1.nolimit.push ob
  have main : ∀ (code : Value) (h3 : Heap) (tk : Nat) (qs : Array Value), Heap.ExtBut P (s1.heap.push ob) h3 → (s1.heap.push ob).objs.size ≤ h3.objs.size → h3.get? P = some { cls := .none, data := .fields qs } → (∃ more, qs = ps ++ more) → TriplesOk qs.toList →
      wpAny (model X.prog X.w) X.A (builtinsFor X.env.globals X.env.builtins) (fun bi s4 =>
        ∃ Ia fp wr n0 Pf St0 pz F, Value.ref s1.heap.objs.size = .ref Ia ∧ (∀ A' : Around, A'.handled = none → Walks X.prog X.w A' Ia fp wr n0 Pf St0) ∧ St0 0 s4.heap ∧ (∀ b ∈ fp, b < s4.heap.objs.size) ∧ s4.heap.NoLimit ∧ cStatics ∉ wr ∧
          (∀ href : Heap, (∀ b o, s4.heap.get? b = some o → href.get? b = some o) →
            QuietGen X.prog X.w (genEnv scope (cloFrom X.env.cells scope.names []) s4.heap.objs.size code bi X.env) x ifs elt (List.range s4.heap.objs.size) wr Pf pz F href) ∧
          (∀ a h5 tk gs, gs.bare = true → s4.heap.objs.size < a → h5.objs.size = a + 1 → (∀ b o, s4.heap.get? b = some o → h5.get? b = some o) →
            WalksS X.prog X.w X.A.in4 a (a :: s4.heap.objs.size :: List.range s4.heap.objs.size) (s4.heap.objs.size :: wr) (GenOnlyQ s4.gens.size) (passing pz n0 0).length
              (fun j y => ∃ i, (passing pz n0 0)[j]? = some i ∧ F i y) (GenAt X.prog X.w X.A.in4 a s4.gens.size s4.heap.objs.size (List.range s4.heap.objs.size) wr pz n0 F) →
            GenAt X.prog X.w X.A.in4 a s4.gens.size s4.heap.objs.size (List.range s4.heap.objs.size) wr pz n0 F 0 { s4 with gens := s4.gens.push gs, toks := tk, heap := h5 } →
            wpAny (model X.prog X.w) X.A (spliced (backTo pos (starEach [] X.env)))
              (fun a_1 s' => wpAny (model X.prog X.w) X.A (call (.type "tuple") (.ref a :: a_1)) (EP X pins σ Q) X.xe s') X.xe { s4 with gens := s4.gens.push gs, toks := tk, heap := h5 })) X.xe { s1 with heap := h3, toks := tk } := by
    intro code h3 tk qs hx hsz gP3 hmore ht3
    obtain ⟨bm, bo, e1, e2, e3, e4, e5, e6, e7, e8⟩ := TB.bm
    have csP : cStatics ≠ P := fun e => by
      obtain ⟨_, hns, _⟩ := I1.nolimit
      obtain ⟨o', es, ep, ho, hd, _⟩ := hns
      rw [e, gP] at ho
      cases ho
      cases hd
    have cl : cStatics < s1.heap.objs.size := let ⟨_, hns, _⟩ := I1.nolimit; hns.lt
    have sz2 : (s1.heap.push ob).objs.size = s1.heap.objs.size + 1 := Heap.size_push ..
    have kp3 : ∀ b u, b ≠ P → s1.heap.get? b = some u → h3.get? b = some u := fun b u hb e => hx b u hb (Heap.get?_push_of_some _ e)
    refine wpAny_builtinsFor (m := X.mg) (by rw [I1.ok.glob]; exact ((I1.mod.glob.keeps I1.bk).push ob).extBut hx TB.gP) e1 e2 (kp3 _ _ e4 (I1.bk _ _ e5)) e6 e7 e8 ?_
    refine ⟨s1.heap.objs.size, [s1.heap.objs.size], [s1.heap.objs.size], (hi' - lo).toNat, (fun i v => i < (hi' - lo).toNat ∧ ∃ t, v = .int (lo + (i : Nat) * 1) t), _, pz, (fun i y => ∃ u, y = .int (f i) u), rfl, (fun A' hA => (Walks.range hA _ lo 1 _).bound), ?_, ?_, lim2.extBut hx csP, ?_, ?_, ?_⟩
    · show IsRangeIter h3 s1.heap.objs.size (lo + ((0 : Nat) : Int) * 1) (((hi' - lo).toNat : Int) - ((0 : Nat) : Int)) 1
      have z1 : lo + ((0 : Nat) : Int) * 1 = lo := by simp
      have z2 : ((hi' - lo).toNat : Int) - ((0 : Nat) : Int) = ((hi' - lo).toNat : Int) := by simp
      rw [z1, z2]
      exact hx _ _ (Nat.ne_of_gt Plt) hIt
    · intro b hb
      rw [List.mem_singleton.mp hb]
      show s1.heap.objs.size < h3.objs.size
      omega
    · intro z
      exact Nat.ne_of_lt cl (List.mem_singleton.mp z)
    · intro href hh
      have old : ∀ (s2 : Shared), (∀ b ∈ List.range h3.objs.size, b ∉ [s1.heap.objs.size] → ∀ o, href.get? b = some o → s2.heap.get? b = some o) → ∀ b o, b ≠ P → s1.heap.get? b = some o → s2.heap.get? b = some o := fun s2 hk b o hb e => by
        have lt1 := Heap.lt_size e
        refine hk b (List.mem_range.mpr (Heap.lt_size (kp3 b o hb e))) (fun z => ?_) o (hh b o (kp3 b o hb e))
        rw [List.mem_singleton.mp z] at lt1
        exact Nat.lt_irrefl _ lt1
      refine ⟨fun A' E' i v s2 m2 hA hv hns hm2 hk => ?_, fun A' E' i v s2 m2 hA hv hp hns hm2 hk => ?_⟩
      · obtain ⟨hi1, t, rfl⟩ := hv
        exact (hE pins s1 I1 _ A' E' i t s2 m2 hi1 rfl rfl hA hns (by rw [hm2]; simp) (old s2 hk)).1
      · obtain ⟨hi1, t, rfl⟩ := hv
        exact (hE pins s1 I1 _ A' E' i t s2 m2 hi1 rfl rfl hA hns (by rw [hm2]; simp) (old s2 hk)).2 hp
    · intro g h5 tk5 gs bare hlt5 hsz5 hk5 W5 g0
      refine Calls.spliced_nil ?_
      have len0 : (passing pz (hi' - lo).toNat 0) = (List.range (hi' - lo).toNat).filter pz := by
        unfold passing
        rw [List.drop_zero]
      refine call_tuple_gen W5.in4_3 (fun i s9 h9 => h9.1.typeIs) g0 (fun b hb => ?_) List.mem_cons_self (fun s' acc hm' hacc => ?_) ?_
      · show b < h5.objs.size
        have a5 : h5.objs.size = g + 1 := hsz5
        have a6 : h3.objs.size < g := hlt5
        rw [a5]
        rcases List.mem_cons.mp hb with z | z
        · rw [z]
          exact Nat.lt_succ_self g
        · rcases List.mem_cons.mp z with z | z
          · rw [z]
            exact Nat.lt_succ_of_lt a6
          · have z2 : b < h3.objs.size := List.mem_range.mp z
            exact Nat.lt_succ_of_lt (Nat.lt_trans z2 a6)
      · obtain ⟨more, em⟩ := hmore
        have nw : ∀ b u, s1.heap.get? b = some u → b ∉ h3.objs.size :: [s1.heap.objs.size] := fun b u e hb => by
          have hl := Heap.lt_size e
          rcases List.mem_cons.mp hb with z | z
          · rw [z] at hl
            have h9 : (h3.objs.size : Nat) < s1.heap.objs.size := hl
            omega
          · rw [List.mem_singleton.mp z] at hl
            exact Nat.lt_irrefl _ hl
        have J := GxR.inv_tab (more := more) (h' := s'.heap) (g' := s'.gens) (d' := s'.drawn) (t' := s'.toks) I1 hP (fun b u hb e => hm'.heap b u (nw b u e) (hk5 b u (kp3 b u hb e)))
          (by rw [← em]; exact hm'.heap P _ (nw P _ gP) (hk5 P _ gP3)) (AllBare.movedS (I1.bare.push bare) hm')
        rw [GxR.sh_eta s1 s' hm'.os] at J
        have tabbed : GxR.Tabbed P H1 (upd H1 P (.tbl (ps ++ more))) := ⟨⟨ps ++ more, upd_same, by rw [← em]; exact ht3⟩, fun b hb => upd_ne hb⟩
        have sz : (((List.range (hi' - lo).toNat).filter pz).map fun i => V.int (f i)).length ≤ sizeLine := by
          rw [List.length_map]
          exact Nat.le_trans (List.length_filter_le _ _) (by rw [List.length_range]; exact hz)
        have vv : Vals (((List.range (hi' - lo).toNat).filter pz).map fun i => V.int (f i)) acc.toList := by
          refine vals_at _ _ ?_ fun j y hy => ?_
          · rw [Array.length_toList, hacc.1, len0]
          · obtain ⟨i, e9, u, z⟩ := hacc.2 j y (by simpa using hy)
            exact ⟨i, by rw [← len0]; exact e9, u, z⟩
        refine ⟨.ref _, _, J.laid (t' := s'.toks) (o := .tup _) (fun b o' z => Heap.get?_push_of_some _ z) (Nat.le_refl _) ⟨sz, acc.toList, vv, _, Heap.get?_push_size _ rfl, rfl, _, rfl⟩, rfl, q _ _ tabbed (J.hok.fresh (Nat.le_refl _))⟩
      · rw [len0]
        exact Nat.le_trans (List.length_filter_le _ _) (by rw [List.length_range]; exact hz)
  refine ⟨lim2, ?_⟩
  cases hf : codeAmong gpos ps.toList with
  | none =>
    refine wpAny_genexprCodeX hcode (cd.code gP2 ht) (cd.tab gP2) hf fun c' h' tk hx hge hlt hco' _ htab' _ => ?_
    obtain ⟨_, _, _, _, _, _, _, _, _, _, _, _, _, _, _, _, _, _, _, htr, _⟩ := hco'
    exact main _ h' tk _ hx (Nat.le_trans hge (Nat.le_of_lt hlt)) htab'.2 ⟨_, rfl⟩ htr
  | some cv =>
    refine wpAny_genexprCode_hit hcode (cd.code gP2 ht) hf ?_
    exact main cv (s1.heap.push ob) s1.toks ps (Heap.ExtBut.refl _ _) (Nat.le_refl _) gP2 ⟨#[], by simp⟩ ht
end
/-! ### the end of a law whose defs hold generator expressions: the tables of their code objects are tracked -/
def LawDoesT (P : Program) (w : World) (K : PySem.W.Frag) (mg : Str → Option Value) (base : Heap) (st : Stmt) (N : List Str) (f : Addr) (cs : List (Addr × Addr)) : Prop :=
  ∀ (cdv : Value) (s : Shared) (H : Hp) (a : Addr) (ns : List Int), ns.length ≤ 63 → (∀ p ∈ cs, H p.2 = some (.tbl #[])) → SqL K H a (ns.map V.int) →
    ∃ t, PSs (cxOf CX0 P w K mg base N "law" (defScope st) f cdv callerA [] s H E0).nox (defBody st) t ∧
      t { nx := fun _ _ => False, rt := fun v _ => v = .bl true } (start N [.ref a]) H
theorem law_atT {P : Program} {w : World} {K : PySem.W.Frag} {mg : Str → Option Value} {base : Heap} {st : Stmt} {N : List Str} {f a : Addr} {fd : FuncData} {s : Shared} {H : Hp} {ns : List Int} {x : Str} {cs : List (Addr × Addr)}
    (F : Fun K "law" "law" st f fd) (S : FnScope N [x] (defScope st)) (hr : Room 60 callerA) (D : LawDoesT P w K mg base st N f cs) (hT : ∀ p ∈ cs, H p.2 = some (.tbl #[]))
    (e0 : Env0 P w K mg base callerA [] s H) (hb : BindsTo s fd ⟨[.ref a], []⟩ [(x, .ref a)]) (hl : ns.length ≤ 63) (hS : SqL K H a (ns.map V.int)) :
    codeAny (model P w) callerA (.call (.ref f) ⟨[.ref a], []⟩) (CR CX0 [] P w H s (fun v _ => v = .bl true) E0) s := by
  obtain ⟨oc, od, kV, doc, pm, an, cdv, ct, osl, rfl, lk, hcd⟩ := F.ex
  have heap0 : K.In s.heap := e0.mod.kin.keeps fun b o e => (e0.bs b o e).1
  have lim0 := e0.mod.nolimit.keeps fun b o e => (e0.bs b o e).1
  have vals : Vals [V.ref a] [Value.ref a] := .cons rfl .nil
  refine codeAny_call_function hr.depth (heap0 _ _ lk) rfl S.co S.gen rfl (PySem.W.codeRec_of heap0 hcd) (hb _ _ _ _ ?_)
  refine wpAny_newFunctionEnv_cells S.kind (fun y hy => ?_) fun env he s1 ic => ?_
  · have ey : y = (x, Value.ref a) := List.mem_singleton.mp hy
    rw [ey]
    rcases S.par x (List.mem_singleton.mpr rfl) with q | q
    · exact Or.inl q
    · exact Or.inr ⟨q, PySem.W.cellsFrom_some _ _ _ (Or.inl q)⟩
  · subst he
    refine ⟨lim0.keeps ic.toInCall.keep, codeAny_func ?_⟩
    obtain ⟨t, pt, q⟩ := D cdv s H a ns hl hT hS
    have I := inv_start (CX := CX0) (E := E0) (cd := cdv) (f := f) (qual := "law") S hr.hd e0 rfl vals ic
    refine wpAny_mono (pt.nox.run [] s1 _ H _ I q) ?_ ?_
    · intro fl s2 h
      cases fl with
      | ret u =>
        obtain ⟨v, _, H2, J, rv, e⟩ := h
        exact ⟨v, H2, J.os, J.bare, J.base, J.hok, rv, e⟩
      | next => exact (let ⟨_, _, _, z⟩ := h; False.elim z)
      | brk => exact (let ⟨_, _, _, z⟩ := h; False.elim z)
      | cont => exact (let ⟨_, _, _, z⟩ := h; False.elim z)
    · exact fun _ _ z => z
/-- the tables, or the script -/
def tabsAt (cs : List (Addr × Addr)) (G : Hp) : Hp := fun b => if b ∈ cs.map (·.2) then some (.tbl #[]) else G b
/-- what is known of a def's code at the head's heap -/
def CodeKnown (mg : Str → Option Value) (h : Heap) (nm : Str) : Prop :=
  ∃ (a : Addr) (o : Obj) (fd : FuncData) (c P : Addr), mg nm = some (.ref a) ∧ h.get? a = some o ∧ o.data = .func fd ∧ fd.code = .ref c ∧ h.IsCode c P #[] ∧ h.TableAt c P #[]
theorem law_walkT {l : PySem.W.OpenLaw} {q : Program} {loose : List Str} {XP : (Str → Option Value) → Heap → Prop} {YP : World → Heap → Prop} {d : DefRec} {K : Params → PySem.W.Frag} {x : Str} {st : Stmt} {N : List Str} {nms : List Str}
    (hn : l.most = some 63) (hdf : d.params.defaults = []) (S : FnScope N [x] (defScope st)) (hY : ∀ (w : World) (h : Heap), YP w h → (K w.params).In h) (hrec : ∀ nm ∈ nms, ((recsOf q).any fun e => e.name == nm) = true)
    (Fm : ∀ (w : World) (mg : Str → Option Value) (fa : Addr) (h : Heap), (K w.params).In h → h.Ns mainGlobals mg → mg d.name = some (.ref fa) → (∀ nm ∈ nms, CodeKnown mg h nm) →
      ∃ (fd : FuncData) (cs : List (Addr × Addr)), Fun (K w.params) "law" "law" st fa fd ∧ (∀ (s : Shared) (u : Value), BindsTo s fd ⟨[u], []⟩ [(x, u)]) ∧
        (∀ p ∈ cs, h.get? p.2 = some { cls := .none, data := .fields #[] } ∧ (K w.params).lookup p.2 = none ∧ PySem.W.CodeHd h p.1 p.2 ∧ h.IsCode p.1 p.2 #[] ∧ h.TableAt p.1 p.2 #[]) ∧
        ∀ base : Heap, (K w.params).In base → (∀ p ∈ cs, GxR.TabB base mg p.1 p.2) → LawDoesT l.prog w (K w.params) mg base st N fa cs) :
    PySem.W.WalkO q loose XP YP l.row.toRowW d [] (fun f vs => PySem.call f vs) := by
  refine Att.attach_call hn hdf fun w s₀ s1 mg mb fa o pm cd doc a vs ns G Y ho hd hcd hmg hobj hints hlen hgen => ?_
  have hK := hY w _ Y
  have known : ∀ nm ∈ nms, CodeKnown mg s1.heap nm := fun nm hm => by
    obtain ⟨e, he, en⟩ := List.any_eq_true.mp (hrec nm hm)
    have en' : e.name = nm := beq_iff_eq.mp en
    rw [← en']
    exact G.T.tab e he
  obtain ⟨fd, cs, F, hbind, hcs, D⟩ := Fm w mg fa _ hK G.T.g hmg known
  have rv := vals_ints hints
  let u : HO := .frz { cls := .type "list", data := .seq vs.toArray } (.lst (ns.map V.int))
  let free : Bool := ((K w.params).lookup a).isNone
  let H : Hp := tabsAt cs (onlyAt a u free)
  have isT : ∀ b, b ∈ cs.map (·.2) → s1.heap.get? b = some { cls := .none, data := .fields #[] } ∧ (K w.params).lookup b = none := fun b hb => by
    obtain ⟨p, hp, e⟩ := List.mem_map.mp hb
    rw [← e]
    exact ⟨(hcs p hp).1, (hcs p hp).2.1⟩
  have aT : a ∉ cs.map (·.2) := fun z => by
    have e := (isT a z).1
    rw [hobj] at e
    cases e
  have cases3 : ∀ b, H b = none ∨ (b ∈ cs.map (·.2) ∧ H b = some (.tbl #[])) ∨ (b = a ∧ free = true ∧ H b = some u) := fun b => by
    by_cases hb : b ∈ cs.map (·.2)
    · exact Or.inr (Or.inl ⟨hb, if_pos hb⟩)
    · rcases onlyAt_cases a u free b with n | ⟨e, fr, y⟩
      · exact Or.inl ((if_neg hb).trans n)
      · exact Or.inr (Or.inr ⟨e, fr, (if_neg hb).trans y⟩)
  have lenV : vs.length = ns.length := hints.length
  have small : ns.length ≤ sizeLine := Nat.le_trans hlen (by decide)
  have hS : SqL (K w.params) H a (ns.map V.int) := by
    cases e : (K w.params).lookup a with
    | none =>
      refine Or.inl (Or.inr ⟨{ cls := .type "list", data := .seq vs.toArray }, ?_⟩)
      show tabsAt cs (onlyAt a u free) a = some u
      unfold tabsAt
      rw [if_neg aT]
      exact if_pos ⟨rfl, by show ((K w.params).lookup a).isNone = true; rw [e]; rfl⟩
    | some ob =>
      have e1 := (hK a ob e).symm.trans hobj
      cases Option.some.inj e1
      exact Or.inr ⟨_, vs.toArray, _, e, rfl, rfl, rfl, by rw [List.size_toArray, lenV]; exact small, by rw [List.toList_toArray]; exact rv⟩
  have hHok : HOk l.prog w H s1.heap := fun b z e => by
    rcases cases3 b with n | ⟨hb, y⟩ | ⟨rfl, _, y⟩
    · cases n.symm.trans e
    · cases y.symm.trans e
      exact (isT b hb).1
    · cases y.symm.trans e
      exact ⟨hobj, by rw [List.length_map]; exact small, vs, _, rv, hobj⟩
  have isN : ∀ {b : Addr} {ob : Obj}, s1.heap.get? b = some ob → (∀ its n, ob.data ≠ .seq its n) → ob.data ≠ .fields #[] → H b = none := fun {b ob} e nd nf => by
    rcases cases3 b with n | ⟨hb, _⟩ | ⟨rfl, _, _⟩
    · exact n
    · cases (isT b hb).1.symm.trans e
      exact absurd rfl nf
    · cases hobj.symm.trans e
      exact absurd rfl (nd _ _)
  have nsK : ∀ {b : Addr} {m : Str → Option Value}, s1.heap.Ns b m → (hidT s1.heap H).Ns b m := by
    rintro b m ⟨ob, es, ep, e, dt, r⟩
    exact ⟨ob, es, ep, hidT_get e (isN e (fun its n z => nomatch dt.symm.trans z) fun z => nomatch dt.symm.trans z), dt, r⟩
  have inB : (K w.params).In (hidT s1.heap H) := fun b ob e => hidT_get (hK b ob e) (by
    rcases cases3 b with n | ⟨hb, _⟩ | ⟨rfl, fr, _⟩
    · exact n
    · rw [(isT b hb).2] at e
      cases e
    · have fr' : ((K w.params).lookup b).isNone = true := fr
      rw [e] at fr'
      cases fr')
  have hM : Mod (K w.params) mg (hidT s1.heap H) := ⟨inB, nsK G.T.g, ⟨mb, nsK G.T.b, G.T.builtins⟩, let ⟨mc, h1, h2⟩ := G.T.nolimit; ⟨mc, nsK h1, h2⟩⟩
  have TB : ∀ p ∈ cs, GxR.TabB (hidT s1.heap H) mg p.1 p.2 := fun p hp => by
    obtain ⟨t1, t2, t3, _⟩ := hcs p hp
    refine ⟨?_, ?_, fun z => ?_⟩
    · obtain ⟨ob, us, file, tf, flags, tg, inF, text, tt, e1, r1, r2, r3, r⟩ := t3
      refine ⟨ob, us, file, tf, flags, tg, inF, text, tt, hidT_get e1 (isN e1 (fun its n z => ?_) fun z => ?_), r1, r2, r3, r⟩
      · rw [r2] at z
        cases z
      · rw [r2] at z
        cases z
        simp at r3
    · obtain ⟨bm, ob, b1, b2, b3, b4, b5, b6⟩ := G.T.bmain
      have nG : bm ≠ mainGlobals := fun z => by
        obtain ⟨o', es, ep, e, hd', _⟩ := G.T.g
        rw [z, e] at b3
        cases b3
        rw [hd'] at b6
        cases b6
      have nP : bm ≠ p.2 := fun z => by
        rw [z, t1] at b3
        cases b3
        cases b6
      refine ⟨bm, ob, b1, b2, nG, nP, hidT_get b3 (isN b3 (fun its n z => ?_) fun z => ?_), b4, b5, b6⟩
      · rw [b6] at z
        cases z
      · rw [b6] at z
        cases z
    · obtain ⟨o', es, ep, e, hd', _⟩ := G.T.g
      rw [z, t1] at e
      cases e
      cases hd'
  have e0 : Env0 l.prog w (K w.params) mg (hidT s1.heap H) callerA [] s1 H :=
    { frames := rfl, mod := hM, bs := fun b ob e => of_hidT e, bsz := Nat.le_of_eq (hidT_size _ _), funs := True.intro, frf := fun b hb => (List.not_mem_nil hb).elim, hok := hHok, bare := .of_eq hgen }
  have hT : ∀ p ∈ cs, H p.2 = some (.tbl #[]) := fun p hp => if_pos (List.mem_map.mpr ⟨p, hp, rfl⟩)
  refine codeAny_mono (law_atT F S ⟨rfl, by decide, by decide⟩ (D _ inB TB) hT e0 (hbind s1 (.ref a)) hlen hS) fun r s2 h => ?_
  cases r with
  | error e => exact False.elim h
  | ok fl =>
    cases fl with
    | next => exact False.elim h
    | brk => exact False.elim h
    | cont => exact False.elim h
    | ret v0 =>
      obtain ⟨v, H2, os, bare, un, hok2, r2, ev⟩ := h
      have ev' : v = .bl true := ev
      rw [ev'] at r2
      have e3 : v0 = Value.bool true := r2
      rw [e3]
      have key : ∀ b ob, b ∉ cs.map (·.2) → s1.heap.get? b = some ob → s2.heap.get? b = some ob := fun b ob nb e => by
        rcases cases3 b with n | ⟨hb, _⟩ | ⟨rfl, _, y⟩
        · exact un.keep b ob e n List.not_mem_nil List.not_mem_nil
        · exact absurd hb nb
        · have k2 := hok2 b _ (un.frzs b _ _ y)
          cases hobj.symm.trans e
          exact k2.1
      have grown : ∀ p ∈ cs, ∃ more : Array Value, s2.heap.get? p.2 = some { cls := .none, data := .fields more } := fun p hp => by
        obtain ⟨more, z⟩ := un.tbls p.2 #[] (hT p hp)
        exact ⟨_, hok2 p.2 _ z⟩
      refine ⟨rfl, ⟨fun b ob e => ?_, fun b ob e => ?_⟩, os, bare⟩
      · by_cases hb : b ∈ cs.map (·.2)
        · obtain ⟨p, hp, ep⟩ := List.mem_map.mp hb
          obtain ⟨more, hm⟩ := grown p hp
          rw [← ep] at e ⊢
          obtain ⟨t1, _, t3, _⟩ := hcs p hp
          rw [t1] at e
          cases e
          exact Or.inr (Or.inl ⟨(t3.tab t1).isCodeTable, rfl, #[], more, rfl, by rw [Array.empty_append]; exact hm⟩)
        · exact Or.inl (key b ob hb e)
      · by_cases hb : b ∈ cs.map (·.2)
        · obtain ⟨p, hp, ep⟩ := List.mem_map.mp hb
          obtain ⟨more, hm⟩ := grown p hp
          rw [← ep]
          exact ⟨_, hm⟩
        · exact ⟨ob, key b ob hb e⟩
/-! ### expressions inside a generator expression's own frame, whatever has come since the state s -/
theorem keepsT {a b c : Shared} (x : PySem.Keeps a b) (y : PySem.Keeps b c) : PySem.Keeps a c := by
  obtain ⟨h, t, rfl, k⟩ := x
  obtain ⟨h2, t2, rfl, k2⟩ := y
  exact ⟨h2, t2, rfl, fun b o e => k2 b o (k b o e)⟩
theorem keepsK {a b : Shared} (x : PySem.Keeps a b) (t : Nat) : PySem.Keeps a { b with toks := t } := keepsT x (GxR.keeps_tok b t)
theorem keepsH {a b : Shared} (x : PySem.Keeps a b) : ∀ c o, a.heap.get? c = some o → b.heap.get? c = some o := by
  obtain ⟨h, t, rfl, k⟩ := x
  exact k
def GV (P : Program) (w : World) (A : Around) (env : Env) (s : Shared) (e : Expr) (R : Value → Prop) : Prop :=
  ∀ (E : Value → Shared → Prop) (s1 : Shared), PySem.Keeps s s1 → wpAny (model P w) A (eval e env) (fun y s2 => R y ∧ PySem.Keeps s s2) E s1
abbrev IsI (i : Int) : Value → Prop := fun y => ∃ t, y = .int i t
section
variable {P : Program} {w : World} {A : Around} {env : Env} {s : Shared} {a b : Expr} {pos p : Pos} {x : Str}
theorem gv_loc {m : Str → Option Value} {v : Value} {R : Value → Prop} (hk : env.scope.kind = .function) (hl : env.scope.names.lookup x = some .local) (hn : s.heap.Ns env.locals m) (hv : m x = some v) (r : R v) (hd : (x == ("__debug__" : Str)) = false := by decide) :
    GV P w A env s (.Name x p) R := fun E s1 k =>
  wpAny_Name (wpAny_loadName_local hk (show env.scope.names.lookup x = some .local from hl) (hn.keeps (keepsH k)) hv ⟨r, k⟩) hd
theorem gv_free {c : Addr} {v : Value} {R : Value → Prop} (hk : env.scope.kind = .function) (hl : env.scope.names.lookup x = some .free) (hc : env.cells.lookup x = some c) (hv : s.heap.IsCell c (some v)) (r : R v) (hd : (x == ("__debug__" : Str)) = false := by decide)
    (hcd : (x == ("__classdict__" : Str)) = false := by decide) : GV P w A env s (.Name x p) R := fun E s1 k =>
  wpAny_Name (wpAny_loadName_free hk (show env.scope.names.lookup x = some .free from hl) hc (let ⟨o, ho, hd⟩ := hv; ⟨o, keepsH k _ _ ho, hd⟩) ⟨r, k⟩ hcd) hd
theorem gv_int {i : Int} {j : Nat} : GV P w A env s (.Constant (.int i) j pos) (IsI i) := fun E s1 k => wpAny_Constant_int ⟨⟨_, rfl⟩, keepsK k _⟩
theorem gv_sub {i j : Int} (ha : GV P w A env s a (IsI i)) (hb : GV P w A env s b (IsI j)) : GV P w A env s (.BinOp a .Sub b pos) (IsI (i - j)) := fun E s1 k => by
  refine wpAny_BinOp (wpAny_mono (ha E s1 k) (fun y s2 ⟨⟨t, e⟩, k2⟩ => wpAny_mono (hb E s2 k2) (fun z s3 ⟨⟨u, e'⟩, k3⟩ => ?_) fun _ _ h => h) fun _ _ h => h)
  subst e
  subst e'
  exact sub_int ⟨⟨_, rfl⟩, keepsK k3 _⟩
theorem gv_add {i j : Int} (ha : GV P w A env s a (IsI i)) (hb : GV P w A env s b (IsI j)) : GV P w A env s (.BinOp a .Add b pos) (IsI (i + j)) := fun E s1 k => by
  refine wpAny_BinOp (wpAny_mono (ha E s1 k) (fun y s2 ⟨⟨t, e⟩, k2⟩ => wpAny_mono (hb E s2 k2) (fun z s3 ⟨⟨u, e'⟩, k3⟩ => ?_) fun _ _ h => h) fun _ _ h => h)
  subst e
  subst e'
  exact add_int ⟨⟨_, rfl⟩, keepsK k3 _⟩
/-- the item of a tuple -/
theorem gv_ix {t : Addr} {xs : List V} {its : List Value} {i : Int} {v : V} {R : Value → Prop} (ha : GV P w A env s a (· = .ref t)) (hb : GV P w A env s b (IsI i)) (ht : IsTup s.heap t its.toArray) (r : Vals xs its) (hz : xs.length ≤ sizeLine)
    (he : atI xs i = some v) (hr : ∀ u, RelV v u → R u) (hs : PlainIx b) : GV P w A env s (.Subscript a b pos) R := fun E s1 k => by
  refine Subscript_ (wpAny_mono (ha E s1 k) (fun y s2 ⟨e, k2⟩ => wpAny_mono (hb E s2 k2) (fun z s3 ⟨⟨u, e'⟩, k3⟩ => ?_) fun _ _ h => h) fun _ _ h => h)
  subst e
  subst e'
  obtain ⟨j, h1, h2, h3, h4, h5⟩ := atI_get he
  obtain ⟨w', ew, rw'⟩ := r.get h2
  have hl := r.length
  have hn := line63
  have ht3 := ht.keeps (keepsH k3)
  exact subscriptTail_builtinR (x := w') ht3.typeIs slot_tuple_getitem.lookup
    (getItem_tuple (j := j) (Q := fun r' s' => r' = w' ∧ (R r' ∧ PySem.Keeps s s')) ht3 (by omega) (by omega) (by rw [List.size_toArray, ← hl]; exact h1) (by simpa using ew) ⟨rfl, hr _ rw', k3⟩) (hs _ _)
/-- no test -/
theorem gt_nil {i : Bool} (hi : i = true) : ∀ E : Value → Shared → Prop, wpAny (model P w) A (forIn ([] : List Expr) true fun c r => if r = true then do let ok ← isTrue c env (eval c env); pure (ForInStep.yield ok) else pure (ForInStep.yield r)) (fun ok s3 => ok = i ∧ PySem.Keeps s s3) E s := fun E => by
  subst hi
  exact wpAny_pure ⟨rfl, GxR.keeps_refl _⟩
/-- one test: a != b -/
theorem gt_ne {i j : Int} (ha : GV P w A env s a (IsI i)) (hb : GV P w A env s b (IsI j)) (hm : behindInMarks .NotEq b = false := by with_unfolding_all rfl) : ∀ E : Value → Shared → Prop, wpAny (model P w) A (forIn [Expr.Compare a [.NotEq] [b] pos] true fun c r => if r = true then do let ok ← isTrue c env (eval c env); pure (ForInStep.yield ok) else pure (ForInStep.yield r)) (fun ok s3 => ok = (i != j) ∧ PySem.Keeps s s3) E s := fun E => by
  rw [List.forIn_cons]
  simp only [if_true, List.forIn_nil]
  refine wpAny_bind (wpAny_bind (wpAny_isTrue_Compare1 (wpAny_mono (ha E s (GxR.keeps_refl _)) (fun y s2 ⟨⟨t, e⟩, k2⟩ => wpAny_mono (hb E s2 k2) (fun z s3 ⟨⟨u, e'⟩, k3⟩ => ?_) fun _ _ h => h) fun _ _ h => h) hm))
  subst e
  subst e'
  exact ne_int (wpAny_truthy_bool (wpAny_pure (wpAny_pure ⟨rfl, k3⟩)))
end
/-- a captured name, where the generator expression starts -/
theorem Inv.freeAt {X : Cx} {pins : List (Addr × Obj)} {σ : L2.St} {H : Hp} {s : Shared} {i : Nat} {x : Str} {v : V} (I : Inv X pins σ H s) (hN : X.N[i]? = some x) (e : σ[i]? = some (some v)) (hc : X.env.scope.names.lookup x = some .cell) :
    ∃ u c, RelV v u ∧ X.env.cells.lookup x = some c ∧ s.heap.IsCell c (some u) := by
  obtain ⟨m, hn, hl⟩ := I.loc
  obtain ⟨u, r, l⟩ := hl i x v hN e (Or.inr (Or.inl hc))
  rcases l with ⟨hk, _⟩ | ⟨_, c, hc', hcell⟩
  · have hk' : X.env.scope.names.lookup x = some .local := hk
    rw [hc] at hk'
    cases hk'
  · exact ⟨u, c, r, hc', hcell⟩
theorem clo_at {cells : List (Str × Addr)} {x : Str} {c : Addr} (hc : cells.lookup x = some c) : ∀ (names : List (Str × NameKind)) (acc : List (Str × Addr)), ((x, NameKind.free) ∈ names ∨ acc.lookup x = some c) → (cloFrom cells names acc).lookup x = some c
  | [], _, h => h.elim (fun z => absurd z List.not_mem_nil) id
  | (n, k) :: r, acc, h => by
    unfold cloFrom
    by_cases hk : k = .free
    · rw [if_pos (by rw [hk]; rfl)]
      refine clo_at hc r _ ?_
      by_cases nx : x = n
      · subst nx
        refine Or.inr ?_
        rw [List.lookup_cons, hc]
        simp
      · rcases h with h | h
        · rcases List.mem_cons.mp h with z | z
          · exact absurd (congrArg Prod.fst z) nx
          · exact Or.inl z
        · refine Or.inr ?_
          rw [List.lookup_cons]
          have : (x == n) = false := beq_eq_false_iff_ne.mpr nx
          rw [this]
          exact h
    · rw [if_neg (by simpa using hk)]
      refine clo_at hc r acc ?_
      rcases h with h | h
      · rcases List.mem_cons.mp h with z | z
        · exact absurd (congrArg Prod.snd z).symm hk
        · exact Or.inl z
      · exact Or.inr h
theorem gen_free {sc sc' : Scope} {n : Nat} (h : (sc'.names.all fun y => y.2 != NameKind.free || sc.names.lookup y.1 == some NameKind.cell) = true) : ∀ y ∈ sc'.names, y.2 = .free → ∃ c, (cellsFrom n sc.names []).lookup y.1 = some c := fun y hy hf => by
  have q := List.all_eq_true.mp h y hy
  rw [hf] at q
  refine cell_has ?_
  simpa using q
/-- a def whose code object is known -/
theorem Fun.okC {P : Program} {w : World} {K : PySem.W.Frag} {mg : Str → Option Value} {base : Heap} {x qual : Str} {st : Stmt} {f c : Addr} {fd : FuncData} {N ps : List Str} {k : Nat} {sp : Sp} (F : Fun K x qual st f fd) (hc : fd.code = .ref c) (S : FnScope N ps (defScope st)) (len : ∀ vs H Q E, sp vs H Q E → vs.length = ps.length)
    (hbody : ∀ (A : Around) (outer : List Env) (s : Shared) (H : Hp) (vs : List V) (Q : VK) (E : XK), Room k (A.deeper (envOfC qual (defScope st) s.heap.objs.size f (.ref c))) → sp vs H Q E →
      ∃ t, PSs (cxOf CX0 P w K mg base N qual (defScope st) f (.ref c) A outer s H E).nox (defBody st) t ∧ t { nx := fun _ H' => Q .non H', rt := Q } (start N vs) H) : FnOk P w K mg base CX0 (k + 1) f fd ps sp := by
  obtain ⟨oc, od, kV, doc, pm, an, cdv, ct, osl, rfl, lk, hcd⟩ := F.ex
  have hc' : cdv = .ref c := hc
  subst hc'
  refine fn_of lk hcd S len fun A outer s H vs Q E hr hsp => ?_
  obtain ⟨t, h, q⟩ := hbody A outer s H vs Q E hr hsp
  exact ⟨t, h.nox, q⟩
/-! ### the tables of the text's code objects -/
def TabField (o : Obj) (P : Addr) : Prop := ∃ vs, o.data = .fields vs ∧ vs[11]? = some (.ref P)
theorem tab_mk {K : PySem.W.Frag} {h : Heap} {mg : Str → Option Value} {nm : Str} {f c P : Addr} {o oc : Obj} {fd : FuncData} (X : K.In h) (hm : mg nm = some (.ref f)) (l : K.lookup f = some o) (hd : o.data = .func fd) (hc : fd.code = .ref c)
    (kk : K.lookup c = some oc) (vv : TabField oc P) (nn : K.lookup P = none) (ck : CodeKnown mg h nm) :
    h.get? P = some { cls := .none, data := .fields #[] } ∧ K.lookup P = none ∧ PySem.W.CodeHd h c P ∧ h.IsCode c P #[] ∧ h.TableAt c P #[] := by
  obtain ⟨a, o', fd', c', P', m1, m2, m3, m4, m5, m6⟩ := ck
  rw [hm] at m1
  cases m1
  rw [X _ _ l] at m2
  cases m2
  rw [hd] at m3
  cases m3
  rw [hc] at m4
  cases m4
  obtain ⟨vs, v1, v2⟩ := vv
  have e : P' = P := by
    obtain ⟨⟨o2, vs2, t1, _, t3, t4⟩, _⟩ := m6
    rw [X _ _ kk] at t1
    cases t1
    rw [v1] at t3
    cases t3
    rw [v2] at t4
    cases t4
    rfl
  subst e
  exact ⟨m6.2, nn, PySem.W.CodeHd.of m5 m6, m5, m6⟩
/-! ### lists or tuples; zip of tuples -/
section
variable {X : Cx}
theorem ixSK (K : PySem.W.Frag) (h : X.K = K) : IxR X (rIx K) := h ▸ ix_seq
end
def SqA (K : PySem.W.Frag) (H : Hp) (a : Addr) (xs : List V) : Prop := SqL K H a xs ∨ SqT K H a xs
theorem SqA.same {K : PySem.W.Frag} {H J : Hp} {a : Addr} {xs : List V} (s : Same H J) (h : SqA K H a xs) : SqA K J a xs := h.elim (fun z => .inl (s.seq z)) fun z => .inr (sameT s z)
theorem walk_zipT {K : PySem.W.Frag} {a b : Addr} {xs ys : List V} {n : Nat} (hn : n = min xs.length ys.length) : Walk (RZ.ItzT K a b) n (fun H => SqT K H a xs ∧ SqT K H b ys) (YPair (fun i => xs[i]?) (fun i => ys[i]?)) := by
  refine ⟨fun i H hi q => ⟨xs, ys, xs[i], ys[i], q.1, q.2, List.getElem?_eq_getElem (by omega), List.getElem?_eq_getElem (by omega)⟩, fun H q => ⟨xs, ys, q.1, q.2, by omega⟩, fun i H v H' hi q y => ?_⟩
  obtain ⟨T, x, y', e, hT, eH, f, g⟩ := y
  exact ⟨T, x, y', e, hT, eH, f _ q.1, g _ q.2⟩
/-- two names, in a comprehension -/
theorem pg_pairK (K : PySem.W.Frag) {X : Cx} {i j k : Nat} {x y : Str} {p q pos : Pos} (hK : X.K = K) (hc : X.calm = true) (hN : X.N.Nodup) (hi : X.N[i]? = some x) (hx : Loc X.env.scope x) (hj : X.N[j]? = some y) (hy : Loc X.env.scope y)
    (hf : X.fn x = true ∨ X.env.scope.names.lookup x = some .local := by first | exact .inl rfl | exact .inr rfl) (hf' : X.fn y = true ∨ X.env.scope.names.lookup y = some .local := by first | exact .inl rfl | exact .inr rfl) :
    PG X (.Tuple [.Name x p, .Name y q] k pos) (gTup K 2 (gCons (gName i) (gCons (gName j) gNil))) := by
  subst hK
  exact pg_tup hc (pgs_cons (pg_name hN hi hx hf) (pgs_cons (pg_name hN hj hy hf') pgs_nil))
/-! ### (x,) * k, long -/
def rRepOne (K : PySem.W.Frag) : R2 := fun x y H Q => ∃ (l : Addr) (k : Int) (v : V), x = .ref l ∧ y = .int k ∧ SqT K H l [v] ∧ 2 ≤ k ∧ k ≤ 9000 ∧ ∀ p, H p = none → Q (.ref p) (upd H p (.tup (List.replicate k.toNat v)))
theorem one_rep (u : Value) (m : Nat) : (List.foldl (fun a b => a ++ b) #[] (List.replicate m #[u])) = (List.replicate m u).toArray := by
  have e := size_rep [u] m
  rw [List.flatten_replicate_singleton] at e
  exact e
theorem op_repOne {X : Cx} : OpR X (binaryOp .Mult) (rRepOne X.K) := by
  rintro pins s σ H _ _ _ _ Q I rx ry ⟨l, k, v, rfl, rfl, hT, lo, hi, q⟩
  cases rx
  obtain ⟨tk, rfl⟩ := ry
  obtain ⟨its, r, ⟨⟨cl, dd, dat, sl⟩, ho, rfl, n, rfl⟩, _⟩ := I.tuple hT
  cases r with
  | cons ru rn =>
  rename_i u us
  cases rn
  have fits : (List.replicate k.toNat u).toArray.size ≤ sizeLine := by
    rw [List.size_toArray, List.length_replicate]
    exact Nat.le_trans (by omega : k.toNat ≤ 9000) (by decide)
  have sz1 : (([u].toArray.size : Nat) : Int) * k = k := Int.one_mul k
  have far : (decide (k < -(2 ^ 63)) || decide (k ≥ 2 ^ 63)) = false := by
    rw [Bool.or_eq_false_iff]
    exact ⟨decide_eq_false (by omega), decide_eq_false (by omega)⟩
  have few : Builtin.Tuple.tupleTooMany (([u].toArray.size : Nat) * k) = false := by
    rw [sz1]
    show decide _ = false
    refine decide_eq_false ?_
    have := sizeLine_eq
    omega
  have many : (([u].toArray.isEmpty || k == 1) = false) ∧ ((decide (k ≤ 0) || [u].toArray.isEmpty) = false) := by
    refine ⟨?_, ?_⟩
    · show (false || k == 1) = false
      rw [Bool.false_or]
      exact beq_eq_false_iff_ne.mpr (by omega)
    · show (decide (k ≤ 0) || false) = false
      rw [Bool.or_false]
      exact decide_eq_false (by omega)
  have W := tuple_mulW l [u].toArray n dd sl k tk far many.1 many.2 (by rw [sz1]; omega) few (by rw [show [u].toArray = #[u] from rfl, one_rep]; exact fits)
  have isT : s.TypeIs (.ref l) "tuple" := ⟨_, ho, rfl⟩
  refine wpAny_binaryOp_repeat_ref (T := "tuple") (U := "int") (by decide) isT (fun z => typeIs_int z k tk) noFill_tuple_mul F.fills_int_mul F.slot_int_rmul repeat_tuple F.slot_int_index.lookup ?_
  refine call_meets F.slot_int_rmul (typeIs_int s k tk) F.entry_int_rmul (F.args_int_rmul_2 _ _) (int_rmul_tuple k tk l [u].toArray n dd sl) ⟨ho, rfl, isT, ?_⟩
  refine call_meets F.slot_tuple_mul isT F.entry_tuple_mul (F.args_tuple_mul_2 _ _) W ⟨ho, ?_⟩
  rw [show [u].toArray = #[u] from rfl, one_rep]
  have vals : Vals (List.replicate k.toNat v) (List.replicate k.toNat u) := by
    generalize k.toNat = m
    induction m with
    | zero => exact .nil
    | succ m ih => exact .cons ru ih
  refine ⟨.ref s.heap.objs.size, _, I.laid (t' := s.toks) (o := .tup (List.replicate k.toNat v)) (fun b o e => Heap.get?_push_of_some _ e) (Nat.le_refl _) ⟨?_, _, vals, _, Heap.get?_push_size _ rfl, rfl, _, rfl⟩, rfl, q _ (I.hok.fresh (Nat.le_refl _))⟩
  rw [List.length_replicate]
  exact Nat.le_trans (by omega : k.toNat ≤ 9000) (by decide)
theorem nil_tup (ds : List PyData) : PyData.eqv (.tuple ds) (.tuple []) = ds.isEmpty := by
  cases ds <;> simp [PyData.eqv, PyData.eqvAll]
/-! ### set(list of numbers), as a set that can be sorted; sorted(set(..)) -/
/-- the new, empty set -/
abbrev noneYet (w : World) : Obj := { cls := .type "set", dict := none, data := .set #[] 0 (.fresh 0 0 (!w.params.followText "set-order")) }
section
variable {P : Program} {w : World} {A : Around} {E : Value → Shared → Prop} {s : Shared}
theorem set_of_list {src : Addr} {vals : Array Value} (ns : List Int) {Q : Value → Shared → Prop} (calm : A.handled = none) (isL : s.heap.IsList src vals) (nums : IntsAre vals.toList ns) (few : ns.length + 1 < scanBound)
    (fin : ∀ (g : Heap) (tk m : Nat), SetR w g s.heap.objs.size (fun j => decide (j ∈ ns)) m → m ≤ ns.length → (∀ b o, s.heap.get? b = some o → g.get? b = some o) → Q (.ref s.heap.objs.size) { s with heap := g, toks := tk }) :
    wpAny (model P w) A (call (.type "set") [.ref src]) Q E s := by
  have many : vals.size = ns.length := (Array.length_toList (xs := vals)).symm.trans nums.length
  obtain ⟨cc, cl, ho⟩ := F.called_set.mro
  have ⟨m1, m2, m3, m4⟩ := And.intro F.called_set.made (And.intro F.called_set.sub (And.intro F.called_set.notType F.called_set.canCreate))
  have m5 := F.typeCall_set_1 (Value.ref src)
  refine wpAny_call (codeAny_of_tree (show wpAny _ _ (callAny (.type "set") _) _ _ _ from ?_))
  refine wpAny_pure (And.intro (Code.quiet_builtin _ (by decide +kernel)) (codeAny_builtin F.entry_type_call ?_))
  rw [Around.under_plain (weight_type_call_type "set" [Value.ref src] []) rfl]
  repeat (any_goals (first | assumption | wp_step))
  refine codeAny_mono (code_set_led1 (Value.ref src) (E := E) (Q₁ := fun u t => u = .ref s.heap.objs.size ∧ t = { s with heap := s.heap.push (noneYet w) }) (And.intro rfl rfl)) fun r1 t1 z1 => ?_
  cases r1 with
  | error _ => exact z1
  | ok f1 =>
  cases f1 with
  | next => exact z1.elim
  | brk => exact z1.elim
  | cont => exact z1.elim
  | ret u =>
  obtain ⟨rfl, rfl⟩ := z1
  have at0 : (s.heap.push (noneYet w)).get? s.heap.objs.size = some (noneYet w) := Heap.get?_push_size _ rfl
  have ty0 : Shared.TypeIs { s with heap := s.heap.push (noneYet w) } (.ref s.heap.objs.size) "set" := ⟨_, at0, rfl⟩
  have n1 := F.called_set.init.lookup
  have n2 := F.called_set.init.bind (Value.ref s.heap.objs.size)
  repeat (any_goals (first | assumption | wp_step))
  refine codeAny_mono (codeAny_call_builtin (R := wants (fun r t => r = .none ∧ ∃ (g : Heap) (tk m : Nat), t = { s with heap := g, toks := tk } ∧ SetR w g s.heap.objs.size (fun j => decide (j ∈ ns)) m ∧ m ≤ ns.length ∧ (∀ b o, s.heap.get? b = some o → g.get? b = some o)) E)
    F.called_set.init.plain F.entry_set_init (check_set_init_1 ty0 ?_)) fun r2 t2 z2 => ?_
  · obtain ⟨⟨lc, ld, lx, ls⟩, at1, k1, len, k2⟩ := isL
    simp only at k1 k2
    subst k1 k2
    have at2 : (s.heap.push (noneYet w)).get? src = some { cls := .type "list", dict := ld, data := .seq vals len, slots := ls } := Heap.get?_push_of_some _ at1
    have o1 := F.sub_list_set
    have o2 := F.sub_list_frozenset
    have o3 : (Value.type "list" == Value.type "dict") = false := by decide
    have isL2 : (s.heap.push (noneYet w)).IsList src vals := ⟨_, at2, rfl, len, rfl⟩
    unfold Builtin.«set.__init__» noKeywords Builtin.Frozenset.updateFrom
    generalize keep : pyIter = PI
    wp_walk
    subst keep
    refine wpAny_pyIter_list isL2 (wpAny_bind (wpAny_runValue ?_))
    have lt := Heap.lt_size at1
    have sz : (s.heap.push (noneYet w)).objs.size = s.heap.objs.size + 1 := Heap.size_push ..
    have calm3 : A.in1.in1.in1.handled = none := by simp only [Around.in1, calm]
    have apart : src ≠ (s.heap.push (noneYet w)).objs.size := fun z => by
      rw [z, sz] at lt
      exact absurd lt (Nat.not_lt_of_le (Nat.le_succ _))
    have out : s.heap.objs.size ∉ [(s.heap.push (noneYet w)).objs.size, src] := fun z => by
      rcases List.mem_cons.mp z with z | z
      · rw [sz] at z
        exact absurd z (Nat.ne_of_lt (Nat.lt_succ_self _))
      · rw [List.mem_singleton.mp z] at lt
        exact Nat.lt_irrefl _ lt
    have each : ∀ (i : Nat) (v : Value), vals[i]? = some v → ∃ k t, ns[i]? = some k ∧ v = .int k t := fun i v hv => by
      have li : i < ns.length := many ▸ (Array.getElem?_eq_some_iff.mp hv).1
      obtain ⟨t, e⟩ := PyProof.Rows.IntsAre.int_at nums i v (by rw [Array.getElem?_toList]; exact hv)
      exact ⟨ns[i], t, List.getElem?_eq_getElem li, by rw [e, List.getD_eq_getElem?_getD, List.getElem?_eq_getElem li]; rfl⟩
    refine set_update_ints (Walks.list calm3 _ src apart vals).toS s.heap.objs.size out ns many few each (vals.size - 0) 0 _ rfl (Nat.zero_le _) ⟨⟨_, Heap.get?_push_size _ rfl, rfl, rfl⟩, isL2.push _⟩
      ⟨0, Nat.le_refl 0, setR_new_at (Heap.get?_push_of_some _ at0)⟩ fun t m mv lm Rt => ?_
    obtain ⟨g, gg, dd, tk, os⟩ := t
    obtain rfl : gg = s.gens := mv.gens
    obtain rfl : dd = s.drawn := mv.drawn
    obtain rfl : os = s.os := mv.os
    show wpAny _ _ _ _ _ _
    refine wpAny_pure (show wpAny _ _ (ret Value.none) _ _ _ from wpAny_pure ⟨rfl, g, tk, m, rfl, Rt, many ▸ lm, fun b o e => ?_⟩)
    have lb := Heap.lt_size e
    refine mv.heap b o (fun z => ?_) (Heap.get?_push_of_some _ (Heap.get?_push_of_some _ e))
    rcases List.mem_cons.mp z with z | z
    · rw [z] at lb
      exact Nat.lt_irrefl _ lb
    · rw [List.mem_singleton.mp z, sz] at lb
      exact absurd lb (Nat.not_lt_of_le (Nat.le_succ _))
  · cases r2 with
    | error _ => exact z2
    | ok f2 =>
    cases f2 with
    | next => exact z2.elim
    | brk => exact z2.elim
    | cont => exact z2.elim
    | ret _ =>
    obtain ⟨rfl, g, tk, m, rfl, Rt, lm, old⟩ := z2
    repeat (any_goals (first | assumption | wp_step))
    exact fin g tk m Rt lm old
end
section
variable {X : Cx}
def rSetN (K : PySem.W.Frag) (w : World) : List V → Hp → VK → Prop := fun xs H Q => ∃ (l : Addr) (ns : List Int), xs = [V.ref l] ∧ SqA K H l (ns.map V.int) ∧ ns.length < 64 ∧ ∀ (p : Addr) (m : Nat), m ≤ ns.length → H p = none → Q (.ref p) (upd H p (SetO w p (fun j => decide (j ∈ ns)) m))
theorem cr_setN (hc : X.calm = true) : CallR X (.type "set") (rSetN X.K X.w) := by
  intro pins s σ H xs us Q I r h
  obtain ⟨l, ns, rfl, hq, h64, q⟩ := h
  rw [Vals.ref1 r]
  have few : ns.length + 1 < scanBound := Nat.lt_trans (by omega : ns.length + 1 < 65) (by decide)
  rcases hq with hq | hq
  · obtain ⟨its, rv, pl, _⟩ := I.list hq
    refine set_of_list ns (I.ok.hd hc) pl.isList (RZ.intsAre_vals rv) few fun g tk m R lm old => ?_
    exact ⟨.ref _, _, I.laid (t' := tk) old (Nat.le_refl _) (setO_new R), rfl, q _ m lm (I.hok.fresh (Nat.le_refl _))⟩
  · obtain ⟨its, rv, pl, _⟩ := I.tuple hq
    refine call_set_tupI ns (I.ok.hd hc) (show s.heap.IsTuple l its.toArray from pl) (RZ.intsAre_vals rv) few fun g tk m R lm old => ?_
    exact ⟨.ref _, _, I.laid (t' := tk) old (Nat.le_refl _) (setO_new R), rfl, q _ m lm (I.hok.fresh (Nat.le_refl _))⟩
end
/-- strictly rising lists of the same numbers are the same -/
theorem rising_eq : ∀ {a b : List Int}, a.Pairwise (· < ·) → b.Pairwise (· < ·) → (∀ k, k ∈ a ↔ k ∈ b) → a = b
  | [], [], _, _, _ => rfl
  | [], y :: b, _, _, h => absurd ((h y).mpr List.mem_cons_self) List.not_mem_nil
  | x :: a, [], _, _, h => absurd ((h x).mp List.mem_cons_self) List.not_mem_nil
  | x :: a, y :: b, ha, hb, h => by
    obtain ⟨ha1, ha2⟩ := List.pairwise_cons.mp ha
    obtain ⟨hb1, hb2⟩ := List.pairwise_cons.mp hb
    have e : x = y := by
      rcases List.mem_cons.mp ((h x).mp List.mem_cons_self) with z | z
      · exact z
      · rcases List.mem_cons.mp ((h y).mpr List.mem_cons_self) with u | u
        · exact u.symm
        · have := hb1 x z
          have := ha1 y u
          omega
    subst e
    have t : a = b := rising_eq ha2 hb2 fun k => by
      constructor
      · intro z
        rcases List.mem_cons.mp ((h k).mp (List.mem_cons_of_mem _ z)) with u | u
        · have := ha1 k z
          omega
        · exact u
      · intro z
        rcases List.mem_cons.mp ((h k).mpr (List.mem_cons_of_mem _ z)) with u | u
        · have := hb1 k z
          omega
        · exact u
    rw [t]
/-- out is the numbers of ns in order, each once -/
def Sorted (out ns : List Int) : Prop := out.Pairwise (· < ·) ∧ ∀ k, k ∈ out ↔ k ∈ ns
theorem Sorted.eq {a b ns ms : List Int} (ha : Sorted a ns) (hb : Sorted b ms) (h : ∀ k, k ∈ ns ↔ k ∈ ms) : a = b := rising_eq ha.1 hb.1 fun k => by rw [ha.2, h, hb.2]
/-! ### t.index(k), t a tuple of numbers -/
def rIdxT (K : PySem.W.Frag) : V → List V → Hp → VK → Prop := fun x xs H Q => ∃ (p : Addr) (ns : List Int) (k : Int) (j : Nat), x = .ref p ∧ xs = [.int k] ∧ SqT K H p (ns.map V.int) ∧ ns[j]? = some k ∧ (∀ m, m < j → ns[m]? ≠ some k) ∧ Q (.int (j : Nat)) H
theorem mt_idxT {X : Cx} : MtR X "tuple.index" (rIdxT X.K) := by
  rintro pins s σ H _ _ v us Q I rx rs ⟨p, ns, k, j, rfl, rfl, hq, hk, first, q⟩
  cases rx
  obtain ⟨u, rfl, t, rfl⟩ := vals1 rs
  obtain ⟨its, r, ⟨⟨cl, dd, dat, sl⟩, ho, rfl, n, rfl⟩, _⟩ := I.tuple hq
  have len : its.toArray.size = ns.length := by
    have := r.length
    rw [List.length_map] at this
    rw [List.size_toArray]
    exact this.symm
  have place : ∀ (m : Nat) (hm : m < its.toArray.size), ∃ y t', ns[m]? = some y ∧ its.toArray[m] = Value.int y t' := by
    intro m hm
    have lm : m < ns.length := len ▸ hm
    obtain ⟨v', hv, t', rfl⟩ := r.get (i := m) (x := .int ns[m]) (by rw [List.getElem?_map, List.getElem?_eq_getElem lm]; rfl)
    exact ⟨ns[m], t', List.getElem?_eq_getElem lm, by simpa using (List.getElem?_eq_some_iff.mp hv).2⟩
  have lj : j < its.toArray.size := len ▸ (List.getElem?_eq_some_iff.mp hk).1
  have W := TI.tuple_indexAt p its.toArray n dd sl (.int k t) (eqU (.int k)) j lj (by
    obtain ⟨y, t', h1, h2⟩ := place j lj
    rw [h2, show y = k from Option.some.inj (h1.symm.trans hk)]
    exact beq_self_eq_true k) (by
    intro m hm lt
    obtain ⟨y, t', h1, h2⟩ := place m hm
    rw [h2]
    exact beq_eq_false_iff_ne.mpr fun e => first m lt (by rw [h1, e]))
  refine call_meets PySem.F.slot_tuple_index ⟨_, ho, rfl⟩ PySem.F.entry_tuple_index (PySem.F.args_tuple_index_2 _ _) W ⟨ho, fun w' hw => ?_, .int (j : Nat), H, I.tok _, ⟨_, rfl⟩, q⟩
  refine mem_eqAt (x := .int k) ⟨t, rfl⟩ rfl r ?_ w' (by simpa using hw)
  rw [List.all_map]
  exact List.all_eq_true.mpr fun _ _ => rfl
/-! ### tuples made by tuple(list), known to the object; their methods -/
def FrzT (H : Hp) (a : Addr) (xs : List V) : Prop := ∃ o : Obj, o.cls = .type "tuple" ∧ o.dict = none ∧ H a = some (.frz o (.tup xs))
theorem FrzT.sq {K : PySem.W.Frag} {H : Hp} {a : Addr} {xs : List V} (h : FrzT H a xs) : SqT K H a xs := let ⟨o, _, _, e⟩ := h; Or.inl (Or.inr ⟨o, e⟩)
section
variable {X : Cx}
def rTupF (K : PySem.W.Frag) : List V → Hp → VK → Prop := fun xs H Q => ∃ (p : Addr) (ys : List V), xs = [.ref p] ∧ SqL K H p ys ∧ ∀ (l : Addr) (o : Obj), o.cls = .type "tuple" → o.dict = none → H l = none → Q (.ref l) (upd H l (.frz o (.tup ys)))
theorem cr_tupF : CallR X (.type "tuple") (rTupF X.K) := by
  rintro pins s σ H xs us Q I r ⟨p, ys, rfl, hq, q⟩
  rw [Vals.ref1 r]
  obtain ⟨its, rv, pl, hz⟩ := I.list hq
  have few := rv.length
  refine call_tuple_list pl.isList (fun g old => ?_) (by rw [List.size_toArray]; omega)
  have I1 : Inv X pins σ H { s with heap := g } := I.kept (t' := s.toks) old
  let o : Obj := { cls := .type "tuple", data := .seq its.toArray }
  have ok : ObjOk X.prog X.w (upd H g.objs.size (.frz o (.tup ys))) (g.push o) g.objs.size (.frz o (.tup ys)) := ⟨Heap.get?_push_size _ rfl, hz, its, rv, IsTup.new _ _⟩
  exact ⟨.ref g.objs.size, _, I1.laid (t' := s.toks) (fun b u e => Heap.get?_push_of_some _ e) (Nat.le_refl _) ok, rfl, q _ o rfl rfl (I1.hok.fresh (Nat.le_refl _))⟩
def tBMT (r : V → List V → Hp → VK → Prop) (to : TE) (t : TA) : TE := fun σ H Q => to σ H fun x H1 => (∃ (a : Addr) (xs : List V), x = .ref a ∧ FrzT H1 a xs) ∧ t σ H1 fun vs H2 => r x vs H2 Q
variable {o e : Expr} {es : List Expr} {to : TE} {t : TA} {name id : String} {apos cpos : Pos} {r : V → List V → Hp → VK → Prop}
theorem pe_bmT (slot : Slot "tuple" name id) (des : typeOf (.builtin id) = pure (.type "method_descriptor")) (hm : MtR X id r) (ho : PE X o to) (ha : PA X (e :: es) t)
    (plainO : attributeBase o name X.env (eval o X.env) = eval o X.env := by rfl)
    (form : ((backTo cpos (starEach (e :: es) X.env)).all (fun x => !x.1) && (backToKw cpos (keywordEach [] X.env)).all (fun x => x.1.isSome) && decide ((e :: es).length + ([] : List Keyword).length + (if ([] : List Keyword).isEmpty then 0 else 1) < 30)) = true := by rfl)
    (row : (apos.endLine == cpos.line) = true := by rfl) (trees : starEach (e :: es) X.env = (false, eval e X.env) :: starEach es X.env := by rfl)
    (noStar : (backTo cpos (starEach es X.env)).any (·.1) = false := by rfl) : PE X (.Call (.Attribute o name apos) (e :: es) [] cpos) (tBMT r to t) := by
  refine ⟨fun pins s σ H Q I h => wpAny_Call_method_late plainO form row rfl (thn (ho.run pins s σ H _ I h) fun v s1 ⟨x, H1, I1, r1, ⟨a, xs, ex, o1, c1, d1, f1⟩, q1⟩ => ?_)⟩
  subst ex
  cases r1
  obtain ⟨got, _⟩ := I1.hok a _ f1
  refine ⟨"tuple", id, PySem.F.plainAttrs_tuple, slot, des, ⟨o1, got, c1⟩, fun b eb => ?_, ?_⟩
  · cases eb
    exact ⟨o1, got, d1⟩
  · have run := ha.run cpos pins s1 σ H1 _ I1 q1
    rw [trees] at run ⊢
    refine Calls.callWith_builtin ?_ (Calls.evalArgs_plain (thn run fun us s2 ⟨vs, H2, I2, r2, q2⟩ => hm pins s2 σ H2 (.ref a) vs (.ref a) us Q I2 rfl r2 q2))
    show (false || (backTo cpos (starEach es X.env)).any (·.1)) = false
    rw [noStar]
    rfl
end
/-! ### generator expressions whose elements are new objects -/
/-- a value that is brought at a place, with the objects that were made for it -/
abbrev Bring : Type := Nat → Value → List (Addr × Obj) → Prop
def bringP (C : Addr) (fp wr : List Addr) (pz : Nat → Bool) (n : Nat) (B : Bring) : Protocol := fun m s0 v s back =>
  (∃ i news, (passing pz n 0)[(passing pz n 0).length - 1 - m]? = some i ∧ B i v news ∧ (news.map Prod.fst).Nodup ∧ ∀ p ∈ news, p.1 ≠ C ∧ p.1 ∉ wr ∧ s0.heap.get? p.1 = none ∧ s.heap.get? p.1 = some p.2) ∧
  GenSince C wr s0 s ∧ ∀ z : Shared, (∀ b ∈ C :: fp, ∀ o, s.heap.get? b = some o → z.heap.get? b = some o) → back (.send .none) z
def endP (C : Addr) (wr : List Addr) : GenEnd := fun k s0 r s => r = .ok .next ∧ (k = 0 ∧ GenSince C wr s0 s)
structure Makes (P : Program) (w : World) (env : Env) (x : Str) (ifs : List Expr) (elt : Expr) (fp wr : List Addr) (It : Nat → Value → Prop) (pz : Nat → Bool) (B : Bring) (h0 : Heap) : Prop where
  quiet : QuietGen P w env x ifs elt fp wr It pz (fun _ _ => True) h0
  makes : ∀ (A' : Around) E' i v (s : Shared) m, A'.handled = none → It i v → pz i = true → s.heap.Ns env.locals m → m x = some v → (∀ b ∈ fp, b ∉ wr → ∀ o, h0.get? b = some o → s.heap.get? b = some o) →
    wpAny (model P w) A' (eval elt env) (fun y s2 => (∃ news, B i y news ∧ (news.map Prod.fst).Nodup ∧ ∀ p ∈ news, s.heap.get? p.1 = none ∧ s2.heap.get? p.1 = some p.2) ∧ PySem.Keeps s s2) E' s
theorem since_get {C : Addr} {wr : List Addr} {s0 s : Shared} (g : GenSince C wr s0 s) {b : Addr} (h1 : b ≠ C) (h2 : b ∉ wr) (h : s.heap.get? b = none) : s0.heap.get? b = none := by
  obtain ⟨h', t, rfl, k⟩ := g
  cases e : s0.heap.get? b with
  | none => rfl
  | some o => rw [k b o h1 h2 e] at h; cases h
section
variable {P : Program} {w : World} {A : Around} {elt iter : Expr} {x : Str} {px pos : Pos} {ifs : List Expr} {scope : Scope} {I : Addr} {fp wr : List Addr} {n : Nat} {It : Nat → Value → Prop} {St : Nat → Heap → Prop} {env : Env} {pz : Nat → Bool} {B : Bring} {h0 : Heap}
theorem bring_loop (calm : A.handled = none) (W : ∀ A' : Around, A'.handled = none → Walks P w A' I fp wr n It St) (live : ∀ i h, St i h → ∀ b ∈ wr, ∃ o, h.get? b = some o) (hx : env.kindOf x = some .local)
    (hk : (env.scope.kind == .class || (env.scope.kind == .module && env.locals != env.globals)) = false) (co : env.scope.isCoroutine = false) (out : env.locals ∉ fp) (M : Makes P w env x ifs elt fp wr It pz B h0) (k : Nat) :
    ∀ (i : Nat) (s0 s : Shared) (m : Str → Option Value), n - i = k → i ≤ n → St i s.heap → s.heap.Ns env.locals m → GenSince env.locals wr s0 s → (∀ b ∈ fp, b ∉ wr → ∀ o, h0.get? b = some o → s.heap.get? b = some o) →
      Seg (model P w) A (endP env.locals wr) (bringP env.locals fp wr pz n B) (passing pz n i).length s0 (.compLoop (.GeneratorExp elt [⟨.Name x px, iter, ifs, 0⟩] scope pos) 0 (.ref I) .none env)
        ((model P w).den (.compLoop (.GeneratorExp elt [⟨.Name x px, iter, ifs, 0⟩] scope pos) 0 (.ref I) .none env)) [] s := by
  have calm2 : (A.over (.compLoop (.GeneratorExp elt [⟨.Name x px, iter, ifs, 0⟩] scope pos) 0 (.ref I) .none env) []).handled = none := calm
  have notw : env.locals ∉ wr := fun z => out ((W A calm).sub _ z)
  induction k with
  | zero =>
    intro i s0 s m e le st ns since kp
    obtain rfl : i = n := by omega
    refine (?_ : Seg _ A _ _ _ s0 _ ((compTurn (.GeneratorExp elt [⟨.Name x px, iter, ifs, 0⟩] scope pos) 0 (.ref I) .none env).onRaise (leaving env)) [] s)
    rw [Sem.onRaise_eq_wrap, compTurn_gen]
    refine seg_bind_wrap (wpAny_standAt (seg_bind_wrap ((W _ calm2).done s _ _ st fun h' t k' => seg_end (.ok .next) ⟨rfl, ?_, since.step fun b o _ hw e => k' b o hw e⟩)))
    rw [passing_end]
    rfl
  | succ k ih =>
    intro i s0 s m e le st ns since kp
    have lt : i < n := by omega
    refine (?_ : Seg _ A _ _ _ s0 _ ((compTurn (.GeneratorExp elt [⟨.Name x px, iter, ifs, 0⟩] scope pos) 0 (.ref I) .none env).onRaise (leaving env)) [] s)
    rw [Sem.onRaise_eq_wrap, compTurn_gen]
    refine seg_bind_wrap (wpAny_standAt (seg_bind_wrap ((W _ calm2).item i s _ _ lt st fun v h1 t1 hv st1 k1 => seg_bind_wrap (wpAny_of_eq (rfl : letOwnedTupleGo (.Name x px) (.ref I) v = pure ()) (seg_bind_wrap (wpAny_assign_Name (wpAny_storeName_local hx (ns.at' fun o e => k1 _ o notw e) (fun h2 ns2 same2 => ?_) hk)))))))
    have old2 : ∀ b o, b ≠ env.locals → b ∉ wr → s.heap.get? b = some o → h2.get? b = some o := fun b o z1 z2 e => same2.extBut b o z1 (k1 b o z2 e)
    have st2 : St (i + 1) h2 := (W A calm).frame _ _ _ st1 fun b hb o e => same2.extBut b o (fun z => out (z ▸ hb)) e
    have kp2 : ∀ b ∈ fp, b ∉ wr → ∀ o, h0.get? b = some o → h2.get? b = some o := fun b hb z o e => old2 b o (fun y => out (y ▸ hb)) z (kp b hb z o e)
    refine seg_bind_wrap (wpAny_mono (M.quiet.tests _ _ i v _ _ calm2 hv ns2 (by simp) kp2) (fun ok s3 q => ?_) fun _ _ z => z)
    obtain ⟨rfl, h3, t3, rfl, k3⟩ := q
    have st3 : St (i + 1) h3 := (W A calm).frame _ _ _ st2 fun b _ o e => k3 b o e
    have since3 : GenSince env.locals wr s0 { s with heap := h3, toks := t3 } := since.step fun b o z1 z2 e => k3 b o (old2 b o z1 z2 e)
    have ns3 := ns2.keeps k3
    cases hp : pz i with
    | false =>
      rw [passing_false lt hp]
      rw [if_neg (by decide)]
      exact seg_again rfl (ih (i + 1) s0 _ _ (by omega) lt st3 ns3 since3 fun b hb z o e => k3 b o (kp2 b hb z o e))
    | true =>
      have yo : ∀ u, yieldOut env u = yieldValue u := fun u => by simp only [yieldOut, co, Bool.false_eq_true, if_false]
      rw [passing_true lt hp, List.length_cons, if_pos rfl]
      simp only [yo]
      rw [Sem.bind_eq_wrap', Sem.bind_eq_wrap', Sem.wrap_wrap, Sem.wrap_wrap]
      refine seg_wrap (wpAny_mono (M.makes _ _ i v _ _ calm2 hv hp ns3 (by simp) fun b hb z o e => k3 b o (kp2 b hb z o e)) (fun y s4 q => ?_) fun _ _ z => z)
      obtain ⟨⟨news, hB, nd, hn⟩, h4, t4, rfl, k4⟩ := q
      refine seg_at (seg_yield rfl rfl rfl ⟨⟨i, news, passing_here lt hp, hB, nd, fun p hp' => ?_⟩, since3.step fun b o _ _ e => k4 b o e, fun z hz => ?_⟩)
      · obtain ⟨n1, n2⟩ := hn p hp'
        have c1 : p.1 ≠ env.locals := fun e => by
          obtain ⟨ob, es, ep, ho, _⟩ := ns3
          rw [e] at n1
          exact absurd (ho.symm.trans n1) (by simp)
        have c2 : p.1 ∉ wr := fun hw => by
          obtain ⟨ob, ho⟩ := live _ _ st3 p.1 hw
          exact absurd (ho.symm.trans n1) (by simp)
        exact ⟨c1, c2, since_get since3 c1 c2 n1, n2⟩
      · exact seg_again rfl (ih (i + 1) z z _ (by omega) lt ((W A calm).frame _ _ _ st3 fun b hb o e => hz b (List.mem_cons_of_mem _ hb) o (k4 b o e)) ((ns3.keeps k4).at' fun o e => hz _ (List.mem_cons_self ..) o e) (GenSince.refl _ _ _)
          fun b hb y o e => hz b (List.mem_cons_of_mem _ hb) o (k4 b o (k3 b o (kp2 b hb y o e))))
end
/-! ### such an expression, started and drawn from -/
def Ready (P : Program) (w : World) (A : Around) (a : Addr) (g : Nat) (C : Addr) (fp wr : List Addr) (pz : Nat → Bool) (n : Nat) (B : Bring) (j : Nat) (s : Shared) : Prop :=
  s.heap.IsGen a g ∧ s.heap.NoLimit ∧ ∃ gs, s.gens[g]? = some gs ∧ ∀ z : Shared, (∀ b ∈ C :: fp, ∀ o, s.heap.get? b = some o → z.heap.get? b = some o) →
    gs.Goes (model P w) A.in1 (endP C wr) (bringP C fp wr pz n B) ((passing pz n 0).length - j) (.send .none) z
section
variable {P : Program} {w : World} {A : Around} {a C : Addr} {g : Nat} {fp wr : List Addr} {pz : Nat → Bool} {n j : Nat} {B : Bring} {s : Shared}
theorem Ready.keep {h' : Heap} {t : Nat} (R : Ready P w A a g C fp wr pz n B j s) (hcs : cStatics ∈ fp) (k : ∀ b ∈ a :: C :: fp, ∀ o, s.heap.get? b = some o → h'.get? b = some o) : Ready P w A a g C fp wr pz n B j { s with heap := h', toks := t } := by
  obtain ⟨⟨o, nm, qn, ho, r⟩, ⟨mc, c1, c2⟩, gs, e, go⟩ := R
  exact ⟨⟨o, nm, qn, k a (List.mem_cons_self ..) o ho, r⟩, ⟨mc, c1.at' fun o e => k cStatics (List.mem_cons_of_mem _ (List.mem_cons_of_mem _ hcs)) o e, c2⟩, gs, e, fun z hz => go z fun b hb o e => hz b hb o (k b (List.mem_cons_of_mem _ hb) o e)⟩
/-- where it stands: its own address, the frame's, what it goes over -/
structure Apart (A : Around) (a C : Addr) (fp wr : List Addr) : Prop where
  calm : A.handled = none
  aC : a ≠ C
  af : a ∉ fp
  sub : ∀ b ∈ wr, b ∈ fp
  room : A.depth < recursionLimit
  cs : cStatics ∈ fp
  csC : cStatics ≠ C
  csw : cStatics ∉ wr
theorem Ready.next (R : Ready P w A a g C fp wr pz n B j s) (T : Apart A a C fp wr) (hj : j < (passing pz n 0).length) {Q : Option Value → Shared → Prop} {E : Value → Shared → Prop}
    (q : ∀ v s' i news, (passing pz n 0)[j]? = some i → B i v news → (news.map Prod.fst).Nodup → (∀ p ∈ news, p.1 ≠ C ∧ p.1 ∉ wr ∧ s.heap.get? p.1 = none ∧ s'.heap.get? p.1 = some p.2) → Ready P w A a g C fp wr pz n B (j + 1) s' → Moved (C :: wr) (GenOnlyQ g) s s' → Q (some v) s') :
    wpAny (model P w) A (pyNext (.ref a)) Q E s := by
  obtain ⟨isg, lim, gs, e, go⟩ := R
  obtain ⟨m, hm⟩ : ∃ m, (passing pz n 0).length - j = m + 1 := ⟨(passing pz n 0).length - j - 1, by omega⟩
  rw [hm] at go
  have aw : a ∉ wr := fun z => T.af (T.sub a z)
  refine wpAny_with_toks (Nat.le_refl s.toks) (wpAny_pyNext_genexpQ (P := fun k s0 s1 => k = 0 ∧ GenSince C wr s0 s1) T.calm lim T.room isg e (go _ fun _ _ _ z => z) (fun v s1 gs' bare hv => ?_) (fun s1 z _ _ => absurd z.1 (Nat.succ_ne_zero m)))
  obtain ⟨⟨i, news, at_, hB, nd, hn⟩, ⟨h1, t1, rfl, k1⟩, back⟩ := hv
  rw [show (passing pz n 0).length - 1 - (m + 1 - 1) = j by omega] at at_
  intro tk
  have mv : Moved (C :: wr) (GenOnlyQ g) s (({ s.setGen g .running with heap := h1, toks := t1 } : Shared).setGen g gs') :=
    ⟨fun b o hb z => k1 b o (fun y => hb (y ▸ List.mem_cons_self ..)) (fun y => hb (List.mem_cons_of_mem _ y)) z, GenOnlyQ.of ((GenOnly.setGen s g .running).trans (GenOnly.setGen _ g gs')) (setGen_self (gs := .running) (setGen_self e)) bare, rfl, rfl, tk⟩
  refine q v _ i news at_ hB nd hn ⟨?_, ?_, gs', setGen_self (gs := .running) (setGen_self e), fun z hz => ?_⟩ mv
  · obtain ⟨o, nm, qn, ho, r⟩ := isg
    exact ⟨o, nm, qn, k1 a o T.aC aw ho, r⟩
  · obtain ⟨mc, c1, c2⟩ := lim
    exact ⟨mc, c1.at' fun o z => k1 cStatics o T.csC T.csw z, c2⟩
  · rw [show (passing pz n 0).length - (j + 1) = m by omega]
    exact back z hz
theorem Ready.done (R : Ready P w A a g C fp wr pz n B j s) (T : Apart A a C fp wr) (hj : j = (passing pz n 0).length) {Q : Option Value → Shared → Prop} {E : Value → Shared → Prop} (q : ∀ s', Moved (C :: wr) (GenOnlyQ g) s s' → Q none s') :
    wpAny (model P w) A (pyNext (.ref a)) Q E s := by
  obtain ⟨isg, lim, gs, e, go⟩ := R
  rw [hj, Nat.sub_self] at go
  refine wpAny_with_toks (Nat.le_refl s.toks) (wpAny_pyNext_genexpQ (P := fun k s0 s1 => k = 0 ∧ GenSince C wr s0 s1) T.calm lim T.room isg e (go _ fun _ _ _ z => z) (fun v s1 gs' _ hv => ?_) (fun s1 hp h' k => ?_))
  · obtain ⟨_, _, back⟩ := hv
    exact (back s1 fun _ _ _ z => z).elim
  · obtain ⟨_, h1, t1, rfl, k1⟩ := hp
    intro tk
    exact q _ ⟨fun b o hb z => k b o (k1 b o (fun y => hb (y ▸ List.mem_cons_self ..)) (fun y => hb (List.mem_cons_of_mem _ y)) z), GenOnlyQ.of ((GenOnly.setGen s g .running).trans (GenOnly.setGen _ g .finished)) (setGen_self (gs := .running) (setGen_self e)) rfl, rfl, rfl, tk⟩
/-- what has been brought so far: the values, and for each the objects made for it, none of which was there at first -/
structure Sofar (pz : Nat → Bool) (n : Nat) (B : Bring) (wr : List Addr) (h0 : Heap) (j : Nat) (acc : Array Value) (nss : List (List (Addr × Obj))) (s : Shared) : Prop where
  size : acc.size = j
  len : nss.length = j
  each : ∀ (k : Nat) v news, acc[k]? = some v → nss[k]? = some news → ∃ i, (passing pz n 0)[k]? = some i ∧ B i v news
  nd : (nss.flatten.map Prod.fst).Nodup
  there : ∀ p ∈ nss.flatten, p.1 ∉ wr ∧ h0.get? p.1 = none ∧ s.heap.get? p.1 = some p.2
theorem Sofar.more {h0 : Heap} {acc : Array Value} {nss : List (List (Addr × Obj))} {v : Value} {i : Nat} {news : List (Addr × Obj)} {s' : Shared} (F : Sofar pz n B wr h0 j acc nss s) (hi : (passing pz n 0)[j]? = some i) (hB : B i v news) (nd : (news.map Prod.fst).Nodup)
    (old : ∀ b o, b ∉ wr → s.heap.get? b = some o → s'.heap.get? b = some o) (fr : ∀ p ∈ news, p.1 ∉ wr ∧ h0.get? p.1 = none ∧ s.heap.get? p.1 = none ∧ s'.heap.get? p.1 = some p.2) : Sofar pz n B wr h0 (j + 1) (acc.push v) (nss ++ [news]) s' := by
  refine ⟨by rw [Array.size_push, F.size], by rw [List.length_append, List.length_singleton, F.len], fun k u ns h1 h2 => ?_, ?_, fun p hp => ?_⟩
  · rw [Array.getElem?_push, F.size] at h1
    by_cases e : k = j
    · subst e
      rw [if_pos rfl] at h1
      rw [List.getElem?_append_right (by rw [F.len]; exact Nat.le_refl _), F.len, Nat.sub_self] at h2
      cases h1
      cases h2
      exact ⟨i, hi, hB⟩
    · rw [if_neg e] at h1
      have lt : k < j := by rw [← F.size]; exact (Array.getElem?_eq_some_iff.mp h1).1
      rw [List.getElem?_append_left (by rw [F.len]; exact lt)] at h2
      exact F.each k u ns h1 h2
  · rw [List.flatten_append, List.map_append, List.flatten_singleton]
    refine List.nodup_append.mpr ⟨F.nd, nd, fun b hb c hc z => ?_⟩
    obtain ⟨p, hp, e1⟩ := List.mem_map.mp hb
    obtain ⟨r, hr, e2⟩ := List.mem_map.mp hc
    have y1 := (F.there p hp).2.2
    have y2 := (fr r hr).2.2.1
    rw [e1, z, ← e2, y2] at y1
    cases y1
  · rw [List.flatten_append, List.flatten_singleton] at hp
    rcases List.mem_append.mp hp with z | z
    · obtain ⟨z1, z2, z3⟩ := F.there p z
      exact ⟨z1, z2, old _ _ z1 z3⟩
    · obtain ⟨z1, z2, _, z3⟩ := fr p z
      exact ⟨z1, z2, z3⟩
end
/-! ### tuple(..) of such an expression -/
abbrev listO (acc : Array Value) (c : Nat) : Obj := { cls := .type "list", dict := none, data := .seq acc c, slots := #[] }
section
variable {P : Program} {w : World} {D : Around} {a C S : Addr} {g : Nat} {fp wr : List Addr} {pz : Nat → Bool} {n : Nat} {B : Bring} {h0 : Heap} {R : Result → Shared → Prop}
theorem bring_extend (T : Apart D.in1.in1 a C fp wr) (few : (passing pz n 0).length ≤ sizeLine) (Sa : S ≠ a) (SC : S ≠ C) (Sf : S ∉ fp) (res : Value) (k : Nat) : ∀ (j : Nat) (s : Shared) (acc : Array Value) (c : Nat) (nss : List (List (Addr × Obj))),
    (passing pz n 0).length - j = k → j ≤ (passing pz n 0).length → Ready P w D.in1.in1 a g C fp wr pz n B j s → s.heap.get? S = some (listO acc c) → Sofar pz n B (S :: C :: wr) h0 j acc nss s → (∀ b o, b ∉ S :: C :: wr → h0.get? b = some o → s.heap.get? b = some o) →
    (∀ s' acc' c' nss', Moved (S :: C :: wr) (GenOnlyQ g) s s' → s'.heap.get? S = some (listO acc' c') → Sofar pz n B (S :: C :: wr) h0 (passing pz n 0).length acc' nss' s' → R (.ok (.ret res)) s') →
      codeAny (model P w) D (.builtin "list.extend.loop" ⟨[.ref S, .ref a, res], []⟩) R s := by
  have Sw : S ∉ C :: wr := fun z => (List.mem_cons.mp z).elim SC fun y => Sf (T.sub _ y)
  have wider : ∀ b ∈ C :: wr, b ∈ S :: C :: wr := fun b hb => List.mem_cons_of_mem _ hb
  have gt : ∀ x y z, GenOnlyQ g x y → GenOnlyQ g y z → GenOnlyQ g x z := fun _ _ _ x y => x.trans y
  induction k with
  | zero =>
    intro j s acc c nss e le rd hS F old q
    have ej : j = (passing pz n 0).length := by omega
    refine codeAny_builtin PySem.F.entry_extend_loop ?_
    rw [Around.under_plainId PySem.F.plain_extend_loop _]
    refine (?_ : wpAny _ D.in1 (pyNext (.ref a) >>= _) _ _ s)
    refine wpAny_bind (wpAny_of_in1 (rd.done T ej fun s' mv => wpAny_pure (q s' acc c nss (mv.mono wider) (mv.heap S _ Sw hS) ?_)))
    rw [← ej]
    exact ⟨F.size, F.len, F.each, F.nd, fun p hp => let ⟨z1, z2, z3⟩ := F.there p hp; ⟨z1, z2, mv.heap _ _ (fun y => z1 (wider _ y)) z3⟩⟩
  | succ k ih =>
    intro j s acc c nss e le rd hS F old q
    refine codeAny_builtin PySem.F.entry_extend_loop ?_
    rw [Around.under_plainId PySem.F.plain_extend_loop _]
    refine (?_ : wpAny _ D.in1 (pyNext (.ref a) >>= _) _ _ s)
    refine wpAny_bind (wpAny_of_in1 (rd.next T (by omega) fun v s' i news hi hB nd hn rd' mv => ?_))
    have hS' := mv.heap S _ Sw hS
    refine (?_ : wpAny _ D.in1 (updateSeq S (·.push v) >>= _) _ _ s')
    have other : ∀ b o, b ≠ S → s'.heap.get? b = some o → (s'.heap.update S (Obj.mapSeq (·.push v))).get? b = some o := fun b o hb z => (Heap.get?_update_other _ _ (Ne.symm hb)).trans z
    have far : ∀ p ∈ news, p.1 ≠ S := fun p hp z => by
      have y := (hn p hp).2.2.1
      rw [z, hS] at y
      cases y
    have out : ∀ p ∈ news, p.1 ∉ S :: C :: wr := fun p hp z => by
      rcases List.mem_cons.mp z with y | y
      · exact far p hp y
      · rcases List.mem_cons.mp y with y | y
        · exact (hn p hp).1 y
        · exact (hn p hp).2.1 y
    have up : ∀ b o, b ∉ S :: C :: wr → s.heap.get? b = some o → (s'.heap.update S (Obj.mapSeq (·.push v))).get? b = some o := fun b o hb z => other b o (fun y => hb (y ▸ List.mem_cons_self ..)) (mv.heap b o (fun y => hb (List.mem_cons_of_mem _ y)) z)
    have F' : Sofar pz n B (S :: C :: wr) h0 (j + 1) (acc.push v) (nss ++ [news]) { s' with heap := s'.heap.update S (Obj.mapSeq (·.push v)) } := F.more hi hB nd up fun p hp => by
      refine ⟨out p hp, ?_, (hn p hp).2.2.1, other _ _ (far p hp) (hn p hp).2.2.2⟩
      cases z : h0.get? p.1 with
      | none => rfl
      | some o =>
        have y := old _ _ (out p hp) z
        rw [(hn p hp).2.2.1] at y
        cases y
    have rd2 : Ready P w D.in1.in1 a g C fp wr pz n B (j + 1) { s' with heap := s'.heap.update S (Obj.mapSeq (·.push v)) } := rd'.keep (t := s'.toks) T.cs fun b hb o z => other b o (fun y => by
      rcases List.mem_cons.mp hb with x | x
      · exact Sa (y ▸ x)
      · rcases List.mem_cons.mp x with x | x
        · exact SC (y ▸ x)
        · exact Sf (y ▸ x)) z
    refine wpAny_bind (wpAny_updateSeq hS' rfl (wpAny_pure ⟨plainId_quiet PySem.F.plain_extend_loop _, ih (j + 1) _ (acc.push v) _ (nss ++ [news]) (by omega) (by omega) rd2 (Heap.get?_update_self _ hS' rfl) F' (fun b o hb z => up b o hb (old b o hb z)) fun s2 acc2 c2 nss2 mv2 hS2 F2 => ?_⟩) (by rw [F.size]; omega) (by show (acc.push v).size ≤ sizeLine + 1; rw [Array.size_push, F.size]; omega))
    exact q s2 acc2 c2 nss2 (Moved.trans gt ((mv.mono wider).then_heap (by first | exact Nat.le_refl _ | exact Nat.le_succ _ | omega) fun b o hb z => other b o (fun y => hb (y ▸ List.mem_cons_self ..)) z) mv2) hS2 F2
end
section
variable {P : Program} {w : World} {A : Around} {E : Value → Shared → Prop} {s : Shared} {a C : Addr} {g : Nat} {fp wr : List Addr} {pz : Nat → Bool} {n : Nat} {B : Bring}
theorem bring_collect {Q : List Value → Shared → Prop} (T : Apart A.in1.in1 a C fp wr) (rd : Ready P w A.in1.in1 a g C fp wr pz n B 0 s) (few : (passing pz n 0).length ≤ sizeLine) (al : a < s.heap.objs.size) (Cl : C < s.heap.objs.size) (fl : ∀ b ∈ fp, b < s.heap.objs.size)
    (q : ∀ s' acc nss, Moved (C :: wr) (GenOnlyQ g) s s' → Sofar pz n B (C :: wr) s.heap (passing pz n 0).length acc nss s' → Q acc.toList s') : wpAny (model P w) A (collect (.ref a)) Q E s := by
  have gt : ∀ x y z, GenOnlyQ g x y → GenOnlyQ g y z → GenOnlyQ g x z := fun _ _ _ x y => x.trans y
  have isG : ∀ z : Shared, z.heap.IsGen a g → z.TypeIs (.ref a) "generator" := fun z h => h.typeIs
  have Sf : s.heap.objs.size ∉ fp := fun z => Nat.lt_irrefl _ (fl _ z)
  have Sa : s.heap.objs.size ≠ a := fun z => Nat.lt_irrefl _ (z ▸ al)
  have SC : s.heap.objs.size ≠ C := fun z => Nat.lt_irrefl _ (z ▸ Cl)
  have gen0 := rd.1
  have rd1 : Ready P w A.in1.in1 a g C fp wr pz n B 0 { s with heap := s.heap.push { cls := .type "list", data := .seq ([] : List Value).toArray } } := rd.keep (t := s.toks) T.cs fun b _ o z => Heap.get?_push_of_some _ z
  unfold collect
  refine wpAny_bind (wpAny_runValue (codeAny_builtin PySem.F.entry_proto_collect ?_))
  rw [Around.under_plainId PySem.F.plain_proto_collect _]
  refine (?_ : wpAny _ A.in1 (newList [] >>= fun l => again (.builtin "list.__iadd__" ⟨[l, .ref a], []⟩)) _ _ s)
  refine wpAny_bind (wpAny_newObj_type (wpAny_pure ⟨plainId_quiet PySem.F.plain_list_iadd _, codeAny_builtin PySem.F.entry_list_iadd ?_⟩))
  rw [Around.under_plainId PySem.F.plain_list_iadd _]
  refine (?_ : wpAny _ A.in1 (Builtin.List.listExtendWith (.ref s.heap.objs.size) (.ref a) (.ref s.heap.objs.size)) _ _ _)
  unfold Builtin.List.listExtendWith
  refine wpAny_bind (wpAny_typeOf (isG _ rd1.1) ?_)
  simp only [show Builtin.List.listSameRef (.ref s.heap.objs.size) (.ref a) = false by simp [Builtin.List.listSameRef, Sa], show (Value.type "generator" == Value.type "list") = false by decide, show (Value.type "generator" == Value.type "tuple") = false by decide, Bool.or_false, Bool.false_eq_true, if_false]
  refine wpAny_bind (wpAny_pyIter_gen rd1.1 (wpAny_bind (wpAny_holding ?_)))
  unfold Builtin.List.listLengthHint
  refine wpAny_bind (wpAny_specialOf (isG _ rd1.1) PySem.F.gen_no_len ?_)
  refine (?_ : wpAny _ A.in1 (specialOf (Value.ref a) (Str.ofString "__length_hint__") >>= _) _ _ _)
  refine wpAny_bind (wpAny_specialOf (isG _ rd1.1) PySem.F.gen_no_hint (wpAny_pure ?_))
  refine (?_ : wpAny _ A.in1 (rule "list.extend.makes-room" >>= fun _ => Builtin.List.listTouch (.ref s.heap.objs.size) >>= fun _ => again (.builtin "list.extend.loop" ⟨[.ref s.heap.objs.size, .ref a, .ref s.heap.objs.size], []⟩)) _ _ _)
  have L1 : (s.heap.push { cls := .type "list", data := .seq ([] : List Value).toArray }).get? s.heap.objs.size = some { cls := .type "list", data := .seq ([] : List Value).toArray } := Heap.get?_push_size _ rfl
  refine wpAny_bind (wpAny_rule (wpAny_bind ?_))
  refine (?_ : wpAny _ A.in1 (updateSeq s.heap.objs.size (·.push .none) >>= fun _ => updateSeq s.heap.objs.size (·.pop)) _ _ _)
  refine wpAny_bind (wpAny_updateSeq L1 rfl ?_)
  have L2' := Heap.get?_update_self (Obj.mapSeq (·.push Value.none)) L1 rfl
  refine wpAny_updateSeq L2' rfl ?_
  have L3 := Heap.get?_update_self (Obj.mapSeq (·.pop)) L2' rfl
  have oth : ∀ b o, b ≠ s.heap.objs.size → (s.heap.push { cls := .type "list", data := .seq ([] : List Value).toArray }).get? b = some o →
      (((s.heap.push { cls := .type "list", data := .seq ([] : List Value).toArray }).update s.heap.objs.size (Obj.mapSeq (·.push Value.none))).update s.heap.objs.size (Obj.mapSeq (·.pop))).get? b = some o :=
    fun b o hb z => (Heap.get?_update_other _ _ (Ne.symm hb)).trans ((Heap.get?_update_other _ _ (Ne.symm hb)).trans z)
  have old0 : ∀ b o, s.heap.get? b = some o → (((s.heap.push { cls := .type "list", data := .seq ([] : List Value).toArray }).update s.heap.objs.size (Obj.mapSeq (·.push Value.none))).update s.heap.objs.size (Obj.mapSeq (·.pop))).get? b = some o :=
    fun b o z => oth b o (fun y => Nat.lt_irrefl _ (y ▸ Heap.lt_size z)) (Heap.get?_push_of_some _ z)
  refine wpAny_pure ⟨plainId_quiet PySem.F.plain_extend_loop _, bring_extend T few Sa SC Sf _ _ 0 _ _ _ [] rfl (Nat.zero_le _)
    (rd1.keep (t := s.toks) T.cs fun b hb o z => oth b o (fun y => ?_) z) L3 ⟨rfl, rfl, fun k v ns h _ => by simp at h, List.nodup_nil, fun p hp => (List.not_mem_nil hp).elim⟩ (fun b o _ z => old0 b o z) fun s' acc c nss mv hS F => ?_⟩
  · rcases List.mem_cons.mp hb with x | x
    · exact Sa (y.symm.trans x)
    · rcases List.mem_cons.mp x with x | x
      · exact SC (y.symm.trans x)
      · exact Sf (y ▸ x)
  · refine (?_ : wpAny _ A (load s.heap.objs.size >>= _) _ _ s')
    refine wpAny_bind (wpAny_load hS (wpAny_pure (q s' acc nss ?_ ⟨F.size, F.len, F.each, F.nd, fun p hp => let ⟨z1, z2, z3⟩ := F.there p hp; ⟨fun y => z1 (List.mem_cons_of_mem _ y), z2, z3⟩⟩)))
    exact Moved.drop_new (o := { cls := .type "list", data := .seq ([] : List Value).toArray }) (tk := s.toks) (Moved.trans gt ((Moved.refl fun _ => .inl rfl).then_heap (by first | exact Nat.le_refl _ | exact Nat.le_succ _ | omega) fun b o hb z => oth b o (fun y => hb (y ▸ List.mem_cons_self)) z) mv) (Nat.le_refl _)
theorem bring_new {Q : Value → Shared → Prop} (T : Apart A.in1.in1.in1 a C fp wr) (rd : Ready P w A.in1.in1.in1 a g C fp wr pz n B 0 s) (few : (passing pz n 0).length ≤ sizeLine) (al : a < s.heap.objs.size) (Cl : C < s.heap.objs.size) (fl : ∀ b ∈ fp, b < s.heap.objs.size)
    (q : ∀ s' acc nss, Moved (C :: wr) (GenOnlyQ g) s s' → Sofar pz n B (C :: wr) s.heap (passing pz n 0).length acc nss s' → Q (.ref s'.heap.objs.size) { s' with heap := s'.heap.push { cls := .type "tuple", data := .seq acc } }) :
    codeAny (model P w) A (.call (.builtin "tuple.__new__") ⟨[.type "tuple", .ref a], []⟩) (wants Q E) s := by
  refine codeAny_of_tree ?_
  refine (?_ : wpAny _ A.in1 (do checkBuiltinCall "tuple.__new__" ⟨[.type "tuple", .ref a], []⟩; again (.builtin "tuple.__new__" ⟨[.type "tuple", .ref a], []⟩)) _ _ s)
  refine wpAny_bind (wpAny_of_eq (PySem.F.newCall_tuple_1 _) (wpAny_pure ⟨plainId_quiet PySem.F.plain_tuple_new _, codeAny_builtin PySem.F.entry_tuple_new ?_⟩))
  rw [Around.under_plainId PySem.F.plain_tuple_new _]
  have ⟨k1, k2, k3, k4⟩ := And.intro sub_tuple_self (And.intro init_tuple_lookup (And.intro madeHere_tuple rd.1.typeIs))
  wp_walk using wpAny_typeOf k4, bring_collect T rd few al Cl fl
  intro s' acc nss mv F
  refine (?_ : wpAny _ A.in1 (Builtin.Tuple.tupleExact acc.toList.toArray >>= fun v => ret v) _ _ _)
  unfold Builtin.Tuple.tupleExact
  have sz : acc.toList.toArray.size ≤ sizeLine := by simp only [Array.toArray_toList]; rw [F.size]; exact few
  refine wpAny_bind (wpAny_newObj_type (wpAny_pure ?_) sz)
  rw [show acc.toList.toArray = acc by simp]
  exact q s' acc nss mv F
theorem bring_tuple {Q : Value → Shared → Prop} (T : Apart A.in1.in1.in1.in1 a C fp wr) (rd : Ready P w A.in1.in1.in1.in1 a g C fp wr pz n B 0 s) (few : (passing pz n 0).length ≤ sizeLine) (al : a < s.heap.objs.size) (Cl : C < s.heap.objs.size) (fl : ∀ b ∈ fp, b < s.heap.objs.size)
    (q : ∀ s' acc nss, Moved (C :: wr) (GenOnlyQ g) s s' → Sofar pz n B (C :: wr) s.heap (passing pz n 0).length acc nss s' → Q (.ref s'.heap.objs.size) { s' with heap := s'.heap.push { cls := .type "tuple", data := .seq acc } }) :
    wpAny (model P w) A (call (.type "tuple") [.ref a]) Q E s := by
  refine callType_codes (Q₁ := fun obj s1 => s1.TypeIs obj "tuple" ∧ Q obj s1) PySem.F.called_tuple (PySem.F.typeCall_tuple_1 _) PySem.F.entry_object_init (bring_new T rd few al Cl fl fun s' acc nss mv F => ⟨⟨_, Heap.get?_push_size _ rfl, rfl⟩, q s' acc nss mv F⟩) fun obj s1 z => ⟨z.1, PySem.F.args_object_init_2 obj _, ?_⟩
  exact object_init_meets PySem.F.called_tuple.init.lookup PySem.F.called_tuple.made (by decide) P w A.in1 _ s1 ⟨z.1, rfl, z.2⟩
end
/-! ### such an expression over a tuple or a range, in a def's body: tuple(.. for x in ..) told as data -/
section
variable {P : Program} {w : World} {A : Around} {elt iter : Expr} {x : Str} {px pos : Pos} {ifs : List Expr} {scope : Scope} {I a : Addr} {g : Nat} {fp wr : List Addr} {n : Nat} {It : Nat → Value → Prop} {St : Nat → Heap → Prop} {env : Env} {pz : Nat → Bool} {B : Bring}
theorem Ready.fresh {s : Shared} {m : Str → Option Value} (calm : A.handled = none) (W : ∀ A' : Around, A'.handled = none → Walks P w A' I fp wr n It St) (live : ∀ i h, St i h → ∀ b ∈ wr, ∃ o, h.get? b = some o) (hx : env.kindOf x = some .local)
    (hk : (env.scope.kind == .class || (env.scope.kind == .module && env.locals != env.globals)) = false) (co : env.scope.isCoroutine = false) (out : env.locals ∉ fp) (M : Makes P w env x ifs elt fp wr It pz B s.heap) (isg : s.heap.IsGen a g)
    (hg : s.gens[g]? = some (.fresh (.compStart (.GeneratorExp elt [⟨.Name x px, iter, ifs, 0⟩] scope pos) 0 (.ref I) .none env))) (st : St 0 s.heap) (ns : s.heap.Ns env.locals m) (lim : s.heap.NoLimit) : Ready P w A a g env.locals fp wr pz n B 0 s := by
  refine ⟨isg, lim, _, hg, fun z hz => ⟨rfl, ?_⟩⟩
  have st' : St 0 z.heap := (W A calm).frame _ _ _ st fun b hb o e => hz b (List.mem_cons_of_mem _ hb) o e
  have ns' := ns.at' fun o e => hz _ (List.mem_cons_self ..) o e
  have calm2 : (A.in1.over (.compStart (.GeneratorExp elt [⟨.Name x px, iter, ifs, 0⟩] scope pos) 0 (.ref I) .none env) []).handled = none := calm
  have lp := bring_loop (iter := iter) (px := px) (scope := scope) (pos := pos) (A := A.in1) calm W live hx hk co out M n 0 z z m (Nat.sub_zero _) (Nat.zero_le _) st' ns' (GenSince.refl _ _ _) fun b hb _ o e => hz b (List.mem_cons_of_mem _ hb) o e
  refine (?_ : Seg _ A.in1 _ _ _ z _ ((compStart (.GeneratorExp elt [⟨.Name x px, iter, ifs, 0⟩] scope pos) 0 (.ref I) .none env).onRaise (leaving env)) [] z)
  unfold compStart
  rw [Sem.onRaise_eq_wrap]
  refine (?_ : Seg _ A.in1 _ _ _ z _ ((ask >>= _).wrap _ _ _ _) [] z)
  refine seg_bind_wrap (wpAny_askSetting ?_)
  split
  · exact seg_again rfl lp
  · first
      | exact seg_bind_wrap (wpAny_rule (seg_bind_wrap (wpAny_standAt (seg_bind_wrap ((W _ calm2).self 0 z _ _ st' (seg_again rfl lp))))))
      | (refine seg_bind_wrap (wpAny_rule ?_); refine (?_ : Seg _ A.in1 _ _ _ z _ ((standAt iter.pos >>= _).wrap _ _ _ _) [] z); exact seg_bind_wrap (wpAny_standAt (seg_bind_wrap ((W _ calm2).self 0 z _ _ st' (seg_again rfl lp)))))
end
/-- the heap with these tuples -/
def tupsAt : List (Addr × List V) → Hp → Hp
  | [], H => H
  | p :: L, H => upd (tupsAt L H) p.1 (.tup p.2)
theorem tupsAt_out {b : Addr} {H : Hp} : ∀ {L : List (Addr × List V)}, b ∉ L.map Prod.fst → tupsAt L H b = H b
  | [], _ => rfl
  | p :: L, h => by
    rw [List.map_cons, List.mem_cons, not_or] at h
    exact (upd_ne h.1).trans (tupsAt_out h.2)
theorem tupsAt_in {H : Hp} : ∀ {L : List (Addr × List V)}, (L.map Prod.fst).Nodup → ∀ p ∈ L, tupsAt L H p.1 = some (.tup p.2)
  | [], _, p, h => (List.not_mem_nil h).elim
  | r :: L, nd, p, h => by
    rw [List.map_cons, List.nodup_cons] at nd
    rcases List.mem_cons.mp h with e | e
    · rw [e]; exact upd_same
    · have ne : p.1 ≠ r.1 := fun z => nd.1 (z ▸ List.mem_map_of_mem e)
      exact (upd_ne ne).trans (tupsAt_in nd.2 p e)
theorem tupsAt_cases {b : Addr} {H : Hp} : ∀ {L : List (Addr × List V)}, b ∈ L.map Prod.fst → ∃ xs, (b, xs) ∈ L ∧ tupsAt L H b = some (.tup xs)
  | [], h => (List.not_mem_nil h).elim
  | p :: L, h => by
    by_cases e : b = p.1
    · exact ⟨p.2, by rw [e]; exact List.mem_cons_self, by rw [e]; exact upd_same⟩
    · obtain ⟨xs, h1, h2⟩ := tupsAt_cases (H := H) ((List.mem_cons.mp h).resolve_left e)
      exact ⟨xs, List.mem_cons_of_mem _ h1, (upd_ne e).trans h2⟩
section
variable {X : Cx} {pins : List (Addr × Obj)} {σ : L2.St} {H G : Hp} {s s' : Shared} {L : List (Addr × List V)}
theorem Inv.more (I : Inv X pins σ H s) (J : Inv X pins σ G s') (new : ∀ b ∈ L.map Prod.fst, s.heap.get? b = none ∧ G b = none) (ok : ∀ p ∈ L, p.2.length ≤ sizeLine ∧ ∃ its : List Value, Vals p.2 its ∧ IsTup s'.heap p.1 its.toArray) : Inv X pins σ (tupsAt L G) s' := by
  have old : ∀ {b o}, s.heap.get? b = some o → b ∉ L.map Prod.fst := fun e z => by rw [(new _ z).1] at e; cases e
  have held : ∀ {b o}, G b = some o → b ∉ L.map Prod.fst := fun e z => by rw [(new _ z).2] at e; cases e
  refine { J with base := ⟨J.base.keep, J.base.slot, fun b o e n hx => ?_, J.base.there, fun b xs e => ?_, fun b o u e => ?_, fun b ps e => ?_⟩, free := ?_, freeC := fun y c e => ?_, pin := fun p hp => ?_, hok := fun b o e => ?_ }
  · obtain ⟨o', e'⟩ := I.base.there b o e hx
    rw [tupsAt_out (old e')]
    exact J.base.free b o e n hx
  · have q := J.base.tups b xs e
    rw [tupsAt_out (held q)]; exact q
  · have q := J.base.frzs b o u e
    rw [tupsAt_out (held q)]; exact q
  · obtain ⟨mo, q⟩ := J.base.tbls b ps e
    exact ⟨mo, by rw [tupsAt_out (held q)]; exact q⟩
  · obtain ⟨m, ⟨ob, es, ep, ho, _⟩, _⟩ := I.loc
    rw [tupsAt_out (old ho)]
    exact J.free
  · obtain ⟨v, ob, ho, _⟩ := I.cell y c e
    rw [tupsAt_out (old ho)]
    exact J.freeC y c e
  · obtain ⟨q1, q2, q3⟩ := J.pin p hp
    exact ⟨q1, by rw [tupsAt_out (old (I.pin p hp).1)]; exact q2, q3⟩
  · by_cases hb : b ∈ L.map Prod.fst
    · obtain ⟨xs, h1, h2⟩ := tupsAt_cases (H := G) hb
      rw [h2] at e
      cases e
      exact ok _ h1
    · rw [tupsAt_out hb] at e
      exact (J.hok b o e).stay (fun _ _ _ q => q) (fun c q => by rw [tupsAt_out (held q)]; exact q) fun c xs q => by rw [tupsAt_out (held q)]; exact q
end
theorem dpAll_of_get {K : PySem.W.Frag} {H : Hp} : ∀ {vs : List V} {ds : List PyData}, vs.length = ds.length → (∀ (k : Nat) v d, vs[k]? = some v → ds[k]? = some d → Dp K H v d) → DpAll K H vs ds
  | [], [], _, _ => .nil
  | [], _ :: _, h, _ => by simp at h
  | _ :: _, [], h, _ => by simp at h
  | v :: vs, d :: ds, h, q => .cons (q 0 v d rfl rfl) (dpAll_of_get (by simpa using h) fun k u e h1 h2 => q (k + 1) u e h1 h2)
/-- one new tuple, told as an object of the model and as what is tracked -/
def TupNew (p : Addr × List V) (r : Addr × Obj) : Prop := r.1 = p.1 ∧ p.2.length ≤ sizeLine ∧ ∃ us : List Value, Vals p.2 us ∧ r.2.cls = .type "tuple" ∧ ∃ n, r.2.data = .seq us.toArray n
/-- a place's item is a new tuple that is such data -/
def BringD (K : PySem.W.Frag) (f : Nat → PyData) (H1 : Hp) : Bring := fun i y news => ∃ (x : V) (L : List (Addr × List V)), RelV x y ∧ Paired TupNew L news ∧ ∀ H2 : Hp, Grow H1 H2 → (∀ p ∈ L, H2 p.1 = some (.tup p.2)) → Dp K H2 x (f i)
theorem paired_fst {L : List (Addr × List V)} {news : List (Addr × Obj)} (h : Paired TupNew L news) : L.map Prod.fst = news.map Prod.fst := by
  induction h with
  | nil => rfl
  | cons a _ ih => rw [List.map_cons, List.map_cons, ih, a.1]
theorem paired_mem {L : List (Addr × List V)} {news : List (Addr × Obj)} (h : Paired TupNew L news) : ∀ p ∈ L, ∃ r ∈ news, TupNew p r := by
  induction h with
  | nil => exact fun p z => (List.not_mem_nil z).elim
  | cons a _ ih => exact fun p z => (List.mem_cons.mp z).elim (fun e => ⟨_, List.mem_cons_self, e ▸ a⟩) fun e => let ⟨r, h1, h2⟩ := ih p e; ⟨r, List.mem_cons_of_mem _ h1, h2⟩
theorem paired_app {L L' : List (Addr × List V)} {m m' : List (Addr × Obj)} (h : Paired TupNew L m) (h' : Paired TupNew L' m') : Paired TupNew (L ++ L') (m ++ m') := by
  induction h with
  | nil => exact h'
  | cons a _ ih => exact .cons a ih
/-- all that was brought, as what is to be tracked -/
theorem bring_all {K : PySem.W.Frag} {f : Nat → PyData} {H1 : Hp} : ∀ (acc : List Value) (nss : List (List (Addr × Obj))) (ix : List Nat), acc.length = ix.length → nss.length = ix.length → (∀ (k : Nat) v news, acc[k]? = some v → nss[k]? = some news → ∃ i, ix[k]? = some i ∧ BringD K f H1 i v news) →
    ∃ (vs : List V) (L : List (Addr × List V)), Vals vs acc ∧ Paired TupNew L nss.flatten ∧ ∀ H2 : Hp, Grow H1 H2 → (∀ p ∈ L, H2 p.1 = some (.tup p.2)) → DpAll K H2 vs (ix.map f)
  | [], [], [], _, _, _ => ⟨[], [], .nil, .nil, fun _ _ _ => .nil⟩
  | v :: acc, ns :: nss, i :: ix, h1, h2, h => by
    obtain ⟨vs, L, r1, r2, r3⟩ := bring_all acc nss ix (by simpa using h1) (by simpa using h2) fun k u m e1 e2 => h (k + 1) u m e1 e2
    obtain ⟨i', e, q, L0, rq, r4, r5⟩ := h 0 v ns rfl rfl
    cases e
    refine ⟨q :: vs, L0 ++ L, .cons rq r1, ?_, fun H2 g hp => .cons (r5 H2 g fun p z => hp p (List.mem_append_left _ z)) (r3 H2 g fun p z => hp p (List.mem_append_right _ z))⟩
    rw [List.flatten_cons]
    exact paired_app r4 r2
  | [], _ :: _, [], _, h2, _ => by simp at h2
  | _ :: _, _, [], h1, _, _ => by simp at h1
  | [], _, _ :: _, h1, _, _ => by simp at h1
  | _ :: _, [], _ :: _, _, h2, _ => by simp at h2
/-! ### the rule -/
def OverOk (X : Cx) (u : Value) (s1 : Shared) (n : Nat) (It : Nat → Value → Prop) (T : Addr) : Prop :=
  ∃ (ob : Obj) (fp0 : List Addr) (St : Nat → Heap → Prop), (∀ (Q : Value → Shared → Prop) (E : Value → Shared → Prop), Q (.ref s1.heap.objs.size) { s1 with heap := s1.heap.push ob } → wpAny (model X.prog X.w) X.A (pyIter u) Q E s1) ∧
    (∀ A' : Around, A'.handled = none → Walks X.prog X.w A' s1.heap.objs.size fp0 [s1.heap.objs.size] n It St) ∧ (∀ b ∈ fp0, b ≤ s1.heap.objs.size) ∧
    (∀ h' : Heap, (∀ b o, b ≠ T → (s1.heap.push ob).get? b = some o → h'.get? b = some o) → St 0 h') ∧ ∀ i h, St i h → ∃ o, h.get? s1.heap.objs.size = some o
/-- the tests and the element, wherever the expression's own frame stands -/
def MakeOk (X : Cx) (scope : Scope) (x : Str) (ifs : List Expr) (elt : Expr) (It : Nat → Value → Prop) (n : Nat) (pz : Nat → Bool) (B : Bring) (T : Addr) (s1 : Shared) : Prop :=
  ∀ (env : Env) (A' : Around) (E' : Value → Shared → Prop) (i : Nat) (v : Value) (s2 : Shared) (m2 : Str → Option Value), It i v → env.scope = scope → env.cells = cloFrom X.env.cells scope.names [] → A'.handled = none →
    s2.heap.Ns env.locals m2 → m2 x = some v → (∀ b o, b ≠ T → s1.heap.get? b = some o → s2.heap.get? b = some o) → env.globals = mainGlobals → env.builtins = builtinsNs →
      wpAny (model X.prog X.w) A' (forIn ifs true fun c r => if r = true then do let ok ← isTrue c env (eval c env); pure (ForInStep.yield ok) else pure (ForInStep.yield r)) (fun ok s3 => ok = pz i ∧ PySem.Keeps s2 s3) E' s2 ∧
      (pz i = true → wpAny (model X.prog X.w) A' (eval elt env) (fun y s3 => (∃ news, B i y news ∧ (news.map Prod.fst).Nodup ∧ ∀ p ∈ news, s2.heap.get? p.1 = none ∧ s3.heap.get? p.1 = some p.2) ∧ PySem.Keeps s2 s3) E' s2)
def tTupO (X : Cx) (T : Addr) (scope : Scope) (x : Str) (ifs : List Expr) (elt : Expr) (te : TE) : TE := fun σ H Q => te σ H fun v H1 => ∃ (n : Nat) (It : Nat → Value → Prop) (pz : Nat → Bool) (f : Nat → PyData), n ≤ sizeLine ∧ GxR.TabG H1 T ∧
  (∀ pins s1 u, Inv X pins σ H1 s1 → RelV v u → OverOk X u s1 n It T ∧ MakeOk X scope x ifs elt It n pz (BringD X.K f H1) T s1) ∧
  ∀ (t : Addr) (vs : List V) (H2 : Hp), Grow H1 H2 → H1 t = none → H2 t = some (.tup vs) → DpAll X.K H2 vs (((List.range n).filter pz).map f) → Q (.ref t) H2
theorem tup_grow {P : Addr} {H1 : Hp} {q : Array Value} {L : List (Addr × List V)} (hP : ∃ ps, H1 P = some (.tbl ps) ∧ (TriplesOk ps.toList → TriplesOk q.toList)) (new : ∀ b ∈ L.map Prod.fst, H1 b = none) : Grow H1 (tupsAt L (upd H1 P (.tbl q))) := by
  obtain ⟨ps, hP, ht⟩ := hP
  have nP : P ∉ L.map Prod.fst := fun z => by rw [new P z] at hP; cases hP
  refine ⟨fun b o e => ?_, fun b r e => ?_⟩
  · obtain ⟨e1, e2⟩ := offT_some e
    have bP : b ≠ P := fun z => by rw [z, hP] at e1; cases e1; exact e2 _ rfl
    have nb : b ∉ L.map Prod.fst := fun z => by rw [new b z] at e1; cases e1
    exact offT_at (by rw [tupsAt_out nb, upd_ne bP]; exact e1) e2
  · by_cases bP : b = P
    · rw [bP, hP] at e
      cases e
      exact ⟨q, by rw [bP, tupsAt_out nP]; exact upd_same, ht⟩
    · have nb : b ∉ L.map Prod.fst := fun z => by rw [new b z] at e; cases e
      exact ⟨r, by rw [tupsAt_out nb, upd_ne bP]; exact e, id⟩
theorem objOk_there {P : Program} {w : World} {H : Hp} {h : Heap} {a : Addr} {o : HO} (x : ObjOk P w H h a o) : ∃ u, h.get? a = some u := by
  cases o with
  | lst xs => obtain ⟨_, _, _, _, e⟩ := x; exact ⟨_, e⟩
  | tup xs => obtain ⟨_, _, _, _, e, _⟩ := x; exact ⟨_, e⟩
  | dK kvs => obtain ⟨_, _, _, _, _, _, _, e, _⟩ := x; exact ⟨_, e⟩
  | dT kvs => obtain ⟨_, _, _, _, _, _, _, e, _⟩ := x; exact ⟨_, e⟩
  | set S n => obtain ⟨_, _, _, _, e, _⟩ := x; exact ⟨_, e⟩
  | ins C dx fs => obtain ⟨_, _, _, e, _⟩ := x; exact ⟨_, e⟩
  | own y => exact x
  | xd fs => obtain ⟨_, ⟨_, _, _, e, _⟩, _⟩ := x; exact ⟨_, e⟩
  | rng lo hi => obtain ⟨_, _, _, e⟩ := x; exact ⟨_, e⟩
  | frz ob u => exact ⟨_, x.1⟩
  | tbl ps => exact ⟨_, x⟩
  | met f y => exact ⟨_, x⟩
  | ext φ => exact x.2.1
section
variable {X : Cx}
theorem pe_tupO {c T : Addr} {elt iter : Expr} {ifs : List Expr} {x : Str} {px p pos gpos : Pos} {scope : Scope} {te : TE} {k : Nat}
    (hr : Room k X.A) (hg : Gl X "tuple") (hm : X.mg "tuple" = none) (TB : GxR.TabB X.base X.mg c T) (hcode : X.env.code = .ref c) (S : GxR.GenS X.env scope x) (hi : PE X iter te) (hs : ∀ v, genFold iter X.env v = pure v)
    (hc : X.calm = true) (he : starEach [.GeneratorExp elt [⟨.Name x px, iter, ifs, 0⟩] scope gpos] X.env = (false, eval (.GeneratorExp elt [⟨.Name x px, iter, ifs, 0⟩] scope gpos) X.env) :: starEach [] X.env := by rfl) :
    PE X (.Call (.Name "tuple" p) [.GeneratorExp elt [⟨.Name x px, iter, ifs, 0⟩] scope gpos] [] pos) (tTupO X T scope x ifs elt te) := by
  refine ⟨fun pins s σ H Q I h => ?_⟩
  refine wpAny_Call_Name_kw (ld_blt I hg hm (show bootBuiltins "tuple" = some (.type "tuple") by decide +kernel) (PyProof.Rows.callWith_type1 ?_ he (by rfl)))
  rw [he]
  refine (?_ : wpAny _ _ (spliced ((false, eval (.GeneratorExp elt [⟨.Name x px, iter, ifs, 0⟩] scope gpos) X.env) :: backTo pos (starEach [] X.env))) _ _ s)
  have calm := I.ok.hd hc
  refine Calls.spliced_cons (wpAny_GeneratorExp_make S.co (closure_ok S.free) S.cell S.dot S.kind (by have := hr.dp; omega) ?_ hs)
  refine thn (hi.run pins s σ H _ I h) fun xv s1 ⟨v, H1, I1, r1, n, It, pz, f, hz, ⟨ps, hP, ht⟩, hO, q⟩ => ?_
  obtain ⟨⟨ob, fp0, St, itr, W, fpl, st0, live⟩, MO⟩ := hO pins s1 xv I1 r1
  refine itr _ _ ?_
  have gP : s1.heap.get? T = some { cls := .none, data := .fields ps } := I1.hok T _ hP
  have Plt : T < s1.heap.objs.size := Heap.lt_size gP
  have gP2 : (s1.heap.push ob).get? T = some { cls := .none, data := .fields ps } := Heap.get?_push_of_some _ gP
  have cd : PySem.W.CodeHd (s1.heap.push ob) c T := TB.code.keeps fun b u e => Heap.get?_push_of_some _ (I1.bk b u e)
  have lim2 : (s1.heap.push ob).NoLimit := I1.nolimit.push ob
  have sz2 : (s1.heap.push ob).objs.size = s1.heap.objs.size + 1 := Heap.size_push ..
  have main : ∀ (code : Value) (h3 : Heap) (tk : Nat) (qs : Array Value), Heap.ExtBut T (s1.heap.push ob) h3 → (s1.heap.push ob).objs.size ≤ h3.objs.size → h3.get? T = some { cls := .none, data := .fields qs } → (∃ more, qs = ps ++ more) → TriplesOk qs.toList →
      wpAny (model X.prog X.w) X.A (builtinsFor X.env.globals X.env.builtins) (fun bi s4 =>
        ∀ h', h'.Ns s4.heap.objs.size (fun y => if y = ".0" then some (Value.ref s1.heap.objs.size) else none) → Heap.SameBut s4.heap.objs.size (s4.heap.push { cls := .type "frame", data := .dict #[] }) h' →
          wpAny (model X.prog X.w) X.A (spliced (backTo pos (starEach [] X.env))) (fun a_1 s' => wpAny (model X.prog X.w) X.A (call (.type "tuple") (.ref h'.objs.size :: a_1)) (EP X pins σ Q) X.xe s') X.xe
            { s4 with
              gens := s4.gens.push (.fresh (.compStart (.GeneratorExp elt [⟨.Name x px, iter, ifs, 0⟩] scope gpos) 0 (.ref s1.heap.objs.size) .none (genEnv scope (cloFrom X.env.cells scope.names []) s4.heap.objs.size code bi X.env))),
              toks := s4.toks + 1 + 1 + 1,
              heap := h'.push { cls := .type "generator", data := .fields #[.int s4.gens.size 0, .str "<genexpr>" (s4.toks + 1), .str (X.env.qual ++ "<genexpr>") (s4.toks + 1 + 1)] } }) X.xe { s1 with heap := h3, toks := tk } := by
    intro code h3 tk qs hx hsz gP3 hmore ht3
    obtain ⟨bm, bo, e1, e2, e3, e4, e5, e6, e7, e8⟩ := TB.bm
    have csP : cStatics ≠ T := fun e => by
      obtain ⟨_, hns, _⟩ := I1.nolimit
      obtain ⟨o', es, ep, ho, hd, _⟩ := hns
      rw [e, gP] at ho
      cases ho
      cases hd
    have cl : cStatics < s1.heap.objs.size := let ⟨_, hns, _⟩ := I1.nolimit; hns.lt
    have kp3 : ∀ b u, b ≠ T → s1.heap.get? b = some u → h3.get? b = some u := fun b u hb e => hx b u hb (Heap.get?_push_of_some _ e)
    refine wpAny_builtinsFor (m := X.mg) (by rw [I1.ok.glob]; exact ((I1.mod.glob.keeps I1.bk).push ob).extBut hx TB.gP) e1 e2 (kp3 _ _ e4 (I1.bk _ _ e5)) e6 e7 e8 ?_
    intro h' hn' hs'
    have hsz' : h'.objs.size = h3.objs.size + 1 := by rw [hs'.1, Heap.size_push]
    have keep' : ∀ b o, h3.get? b = some o → h'.get? b = some o := fun b o e => hs'.extBut b o (Nat.ne_of_lt (Heap.lt_size e)) (Heap.get?_push_of_some _ e)
    generalize hG : ({ cls := .type "generator", data := .fields #[.int s1.gens.size 0, .str "<genexpr>" (tk + 1), .str (X.env.qual ++ "<genexpr>") (tk + 1 + 1)] } : Obj) = go
    have keep5 : ∀ b o, h3.get? b = some o → (h'.push go).get? b = some o := fun b o e => Heap.get?_push_of_some _ (keep' b o e)
    have old5 : ∀ b o, b ≠ T → s1.heap.get? b = some o → (h'.push go).get? b = some o := fun b o hb e => keep5 b o (kp3 b o hb e)
    refine Calls.spliced_nil ?_
    have szS : s1.heap.objs.size < h3.objs.size := by omega
    have Ap : Apart X.A.in1.in1.in1.in1 h'.objs.size h3.objs.size (List.range h3.objs.size) [s1.heap.objs.size] :=
      ⟨calm, by rw [hsz']; exact Nat.succ_ne_self _, fun z => by have := List.mem_range.mp z; omega, fun b hb => by rw [List.mem_singleton.mp hb]; exact List.mem_range.mpr szS, (by have := hr.dp; show X.A.depth < recursionLimit; omega), List.mem_range.mpr (Nat.lt_trans cl szS), Nat.ne_of_lt (Nat.lt_trans cl szS), fun z => Nat.ne_of_lt cl (List.mem_singleton.mp z)⟩
    have Wf : ∀ A' : Around, A'.handled = none → Walks X.prog X.w A' s1.heap.objs.size (List.range h3.objs.size) [s1.heap.objs.size] n It St := fun A' hA => (W A' hA).mono_fp fun b hb => List.mem_range.mpr (Nat.lt_of_le_of_lt (fpl b hb) szS)
    have mk : Makes X.prog X.w (genEnv scope (cloFrom X.env.cells scope.names []) h3.objs.size code builtinsNs X.env) x ifs elt (List.range h3.objs.size) [s1.heap.objs.size] It pz (BringD X.K f H1) (h'.push go) := by
      have old : ∀ (s2 : Shared), (∀ b ∈ List.range h3.objs.size, b ∉ [s1.heap.objs.size] → ∀ o, (h'.push go).get? b = some o → s2.heap.get? b = some o) → ∀ b o, b ≠ T → s1.heap.get? b = some o → s2.heap.get? b = some o := fun s2 hk b o hb e => by
        have lt1 := Heap.lt_size e
        refine hk b (List.mem_range.mpr (Heap.lt_size (kp3 b o hb e))) (fun z => ?_) o (old5 b o hb e)
        rw [List.mem_singleton.mp z] at lt1
        exact Nat.lt_irrefl _ lt1
      refine ⟨⟨fun A' E' i v s2 m2 hA hv hns hm2 hk => (MO _ A' E' i v s2 m2 hv rfl rfl hA hns hm2 (old s2 hk) I1.ok.glob rfl).1, fun A' E' i v s2 m2 hA hv hp hns hm2 hk => ?_⟩, fun A' E' i v s2 m2 hA hv hp hns hm2 hk => (MO _ A' E' i v s2 m2 hv rfl rfl hA hns hm2 (old s2 hk) I1.ok.glob rfl).2 hp⟩
      exact wpAny_mono ((MO _ A' E' i v s2 m2 hv rfl rfl hA hns hm2 (old s2 hk) I1.ok.glob rfl).2 hp) (fun y s3 z => ⟨trivial, z.2⟩) fun _ _ z => z
    have cs5 : (h'.push go).NoLimit := (lim2.extBut hx csP).keeps keep5
    have rd : Ready X.prog X.w X.A.in1.in1.in1.in1 h'.objs.size s1.gens.size h3.objs.size (List.range h3.objs.size) [s1.heap.objs.size] pz n (BringD X.K f H1) 0 { s1 with gens := s1.gens.push (.fresh (.compStart (.GeneratorExp elt [⟨.Name x px, iter, ifs, 0⟩] scope gpos) 0 (.ref s1.heap.objs.size) .none (genEnv scope (cloFrom X.env.cells scope.names []) h3.objs.size code builtinsNs X.env))), toks := tk + 1 + 1 + 1, heap := h'.push go } := by
      refine Ready.fresh (A := X.A.in1.in1.in1.in1) (env := genEnv scope (cloFrom X.env.cells scope.names []) h3.objs.size code builtinsNs X.env) (m := fun y => if y = ".0" then some (.ref s1.heap.objs.size) else none) calm Wf (fun i h st b hb => by rw [List.mem_singleton.mp hb]; exact live i h st) S.loc (by show (scope.kind == .class || (scope.kind == .module && _)) = false; rw [S.kind]; rfl) S.co (fun z => Nat.lt_irrefl _ (List.mem_range.mp z)) mk (by subst hG; exact ⟨_, _, _, Heap.get?_push_size _ rfl, rfl, rfl, rfl⟩) (Array.getElem?_push_size ..) (st0 _ fun b o hb e => keep5 b o (hx b o hb e)) (hn'.push _) cs5
    have few : (passing pz n 0).length ≤ sizeLine := by
      unfold passing
      exact Nat.le_trans (List.length_filter_le _ _) (by rw [List.drop_zero, List.length_range]; exact hz)
    have sz5 : (h'.push go).objs.size = h3.objs.size + 2 := by rw [Heap.size_push, hsz']
    refine bring_tuple Ap rd few (by show h'.objs.size < (h'.push go).objs.size; omega) (by show h3.objs.size < (h'.push go).objs.size; omega) (fun b hb => Nat.lt_trans (List.mem_range.mp hb) (by show h3.objs.size < (h'.push go).objs.size; omega)) fun s' acc nss mv F => ?_
    obtain ⟨more, em⟩ := hmore
    have nw : ∀ b u, s1.heap.get? b = some u → b ∉ h3.objs.size :: [s1.heap.objs.size] := fun b u e hb => by
      have hl := Heap.lt_size e
      rcases List.mem_cons.mp hb with z | z
      · rw [z] at hl
        exact Nat.lt_asymm szS hl
      · rw [List.mem_singleton.mp z] at hl
        exact Nat.lt_irrefl _ hl
    have kept : ∀ b u, b ≠ T → s1.heap.get? b = some u → s'.heap.get? b = some u := fun b u hb e => mv.heap b u (nw b u e) (old5 b u hb e)
    have J := GxR.inv_tab (more := more) (h' := s'.heap) (g' := s'.gens) (d' := s'.drawn) (t' := s'.toks) I1 hP kept (by rw [← em]; exact mv.heap T _ (nw T _ gP) (keep5 T _ gP3)) (AllBare.movedS (I1.bare.push rfl) mv)
    rw [GxR.sh_eta s1 s' mv.os] at J
    have len0 : passing pz n 0 = (List.range n).filter pz := by unfold passing; rw [List.drop_zero]
    obtain ⟨vs, L, v1, v2, v3⟩ := bring_all (K := X.K) (f := f) (H1 := H1) acc.toList nss (passing pz n 0) (by rw [Array.length_toList, F.size]) F.len fun k v news h1 h2 => F.each k v news (by simpa using h1) h2
    have fst := paired_fst v2
    have none1 : ∀ b ∈ L.map Prod.fst, s1.heap.get? b = none := fun b hb => by
      rw [fst] at hb
      obtain ⟨p, hp, rfl⟩ := List.mem_map.mp hb
      cases e : s1.heap.get? p.1 with
      | none => rfl
      | some u =>
        have z := (F.there p hp).2.1
        by_cases hT : p.1 = T
        · rw [hT] at z
          exact absurd ((keep5 T _ gP3).symm.trans z) (by simp)
        · exact absurd ((old5 _ _ hT e).symm.trans z) (by simp)
    have free1 : ∀ b ∈ L.map Prod.fst, H1 b = none := fun b hb => by
      cases e : H1 b with
      | none => rfl
      | some o =>
        obtain ⟨u, hu⟩ := objOk_there (I1.hok b o e)
        exact absurd (hu.symm.trans (none1 b hb)) (by simp)
    have neT : ∀ b ∈ L.map Prod.fst, b ≠ T := fun b hb z => by
      have y := none1 b hb
      rw [z, gP] at y
      cases y
    have J2 := Inv.more I1 J (fun b hb => ⟨none1 b hb, by rw [upd_ne (neT b hb)]; exact free1 b hb⟩) fun p hp => by
      obtain ⟨r, hr', t1, t2, us, t3, t4, m, t5⟩ := paired_mem v2 p hp
      refine ⟨t2, us, t3, r.2, ?_, t4, m, t5⟩
      rw [← t1]
      exact (F.there r hr').2.2
    have gr : Grow H1 (tupsAt L (upd H1 T (.tbl (ps ++ more)))) := tup_grow ⟨ps, hP, fun _ => by rw [← em]; exact ht3⟩ free1
    have fresh2 := J2.hok.fresh (Nat.le_refl s'.heap.objs.size)
    have vl : vs.length = acc.size := by rw [v1.length, Array.length_toList]
    have g2 : Grow H1 (upd (tupsAt L (upd H1 T (.tbl (ps ++ more)))) s'.heap.objs.size (.tup vs)) := gr.trans (Grow.new fresh2)
    refine ⟨.ref _, _, J2.laid (t' := s'.toks) (o := .tup vs) (fun b o' z => Heap.get?_push_of_some _ z) (Nat.le_refl _) ⟨by rw [vl, F.size]; exact few, acc.toList, v1, _, Heap.get?_push_size _ rfl, rfl, _, rfl⟩, rfl, q _ vs _ g2 ?_ upd_same ?_⟩
    · cases e : H1 s'.heap.objs.size with
      | none => rfl
      | some o =>
        cases o with
        | tbl z =>
          obtain ⟨z', e', _⟩ := gr.t _ _ e
          exact absurd (e'.symm.trans fresh2) (by simp)
        | _ => exact absurd ((gr.at e).symm.trans fresh2) (by simp)
    · rw [← len0]
      refine v3 _ g2 fun p hp => ?_
      have hin : tupsAt L (upd H1 T (.tbl (ps ++ more))) p.1 = some (.tup p.2) := tupsAt_in (by rw [fst]; exact F.nd) p hp
      rw [upd_ne (ne_of_none hin fresh2)]
      exact hin
  refine ⟨lim2, ?_⟩
  cases hf : codeAmong gpos ps.toList with
  | none =>
    refine wpAny_genexprCodeX hcode (cd.code gP2 ht) (cd.tab gP2) hf fun c' h' tk hx hge hlt hco' _ htab' _ => ?_
    obtain ⟨_, _, _, _, _, _, _, _, _, _, _, _, _, _, _, _, _, _, _, htr, _⟩ := hco'
    exact main _ h' tk _ hx (Nat.le_trans hge (Nat.le_of_lt hlt)) htab'.2 ⟨_, rfl⟩ htr
  | some cv =>
    refine wpAny_genexprCode_hit hcode (cd.code gP2 ht) hf ?_
    exact main cv (s1.heap.push ob) s1.toks ps (Heap.ExtBut.refl _ _) (Nat.le_refl _) gP2 ⟨#[], by simp⟩ ht
end
/-! ### elements that make a pair -/
section
variable {P : Program} {w : World} {A : Around} {env : Env} {s : Shared} {a b : Expr} {pos : Pos} {k : Nat}
theorem gm_two {R1 R2 : Value → Prop} (ha : GV P w A env s a R1) (hb : GV P w A env s b R2) (st : starEach [a, b] env = (false, eval a env) :: (false, eval b env) :: starEach [] env := by rfl) (E : Value → Shared → Prop) :
    wpAny (model P w) A (eval (.Tuple [a, b] k pos) env) (fun y s3 => (∃ q u v, y = .ref q ∧ R1 u ∧ R2 v ∧ s.heap.get? q = none ∧ s3.heap.get? q = some { cls := .type "tuple", data := .seq [u, v].toArray }) ∧ PySem.Keeps s s3) E s := by
  refine wpAny_Tuple_spliced ?_
  rw [st]
  refine (?_ : wpAny _ _ (spliced ((false, eval a env) :: backTo pos ((false, eval b env) :: starEach [] env))) _ _ s)
  refine Calls.spliced_cons (wpAny_mono (ha E s (GxR.keeps_refl _)) (fun u s1 ⟨r1, k1⟩ => ?_) fun _ _ z => z)
  refine (?_ : wpAny _ _ (spliced ((false, eval b env) :: backTo pos (starEach [] env))) _ _ s1)
  refine Calls.spliced_cons (wpAny_mono (hb E s1 k1) (fun v s2 ⟨r2, k2⟩ => ?_) fun _ _ z => z)
  refine Calls.spliced_nil ⟨by show 2 ≤ sizeLine; decide, ⟨s2.heap.objs.size, u, v, rfl, r1, r2, ?_, Heap.get?_push_size _ rfl⟩, ?_⟩
  · cases e : s.heap.get? s2.heap.objs.size with
    | none => rfl
    | some o => exact absurd (Heap.lt_size (keepsH k2 _ _ e)) (Nat.lt_irrefl _)
  · obtain ⟨h, t, rfl, kk⟩ := k2
    exact ⟨_, t, rfl, fun c o e => Heap.get?_push_of_some _ (kk c o e)⟩
end
/-- over a tuple of numbers -/
theorem over_tup {X : Cx} {s1 : Shared} {a T : Addr} {its : List Value} {ps : Array Value} (calm : X.A.handled = none) (ht : IsTup s1.heap a its.toArray) (hT : s1.heap.get? T = some { cls := .none, data := .fields ps }) : OverOk X (.ref a) s1 its.length (fun i v => its[i]? = some v) T := by
  have al : a < s1.heap.objs.size := ht.lt
  have aT : a ≠ T := fun z => by
    obtain ⟨o, ho, _, n, hd⟩ := ht
    rw [z, hT] at ho
    cases ho
    cases hd
  have tT : s1.heap.objs.size ≠ T := fun z => Nat.lt_irrefl _ (z ▸ Heap.lt_size hT)
  have sz : its.toArray.size = its.length := List.size_toArray ..
  refine ⟨{ cls := .type "tuple_iterator", data := .fields #[.ref a, .int 0 0] }, [s1.heap.objs.size, a], fun i h => h.IsTupleIter s1.heap.objs.size a i ∧ h.IsTuple a its.toArray, fun Q E q => wpAny_pyIter_tuple (show s1.heap.IsTuple a its.toArray from ht) q, fun A' hA => ?_, fun b hb => ?_, fun h' k => ⟨?_, ?_⟩, fun i h st => ?_⟩
  · have W := Walks.tuple (prog := X.prog) (w := X.w) hA s1.heap.objs.size a (Nat.ne_of_lt al) its.toArray
    rw [sz] at W
    refine { W with item := fun i s Q E hi st hQ => W.item i s Q E hi st fun v h' tk hv => hQ v h' tk (by simpa using hv) }
  · rcases List.mem_cons.mp hb with z | z
    · exact Nat.le_of_eq z
    · rw [List.mem_singleton.mp z]; exact Nat.le_of_lt al
  · exact ⟨_, k _ _ tT (Heap.get?_push_size _ rfl), rfl, rfl⟩
  · obtain ⟨o, ho, r⟩ := ht
    exact ⟨o, k _ _ aT (Heap.get?_push_of_some _ ho), r⟩
  · obtain ⟨⟨o, ho, _⟩, _⟩ := st
    exact ⟨o, ho⟩
/-! ### enumerate over a tuple, from a number on -/
def IteT (K : PySem.W.Frag) (a : Addr) (c : Int) : It :=
  ⟨fun i H => ∃ (xs : List V) (x : V), SqT K H a xs ∧ xs[i]? = some x, fun i H v H' => ∃ T x, v = .ref T ∧ H T = none ∧ H' = upd H T (.tup [.int (c + (i : Int)), x]) ∧ ∀ xs, SqT K H a xs → xs[i]? = some x, fun i H => ∃ xs : List V, SqT K H a xs ∧ xs.length ≤ i⟩
theorem turn_enumT {P : Program} {w : World} {K : PySem.W.Frag} {elts : List Expr} {kk : Nat} {tpos : Pos} (a e it : Addr) (c : Int) :
    Turn P w K (.Tuple elts kk tpos) (IteT K a c) [e, it] e (fun i h => (∃ old, IsEnum h e it (c + (i : Int)) old) ∧ h.IsTupleIter it a i ∧ e ≠ it) where
  mem := by simp
  obj := fun i h st b hb => by
    obtain ⟨⟨old, he⟩, ⟨o, ho, hc, hd⟩, _⟩ := st
    rcases (by simpa using hb : b = e ∨ b = it) with z | z
    · rw [z]; exact ⟨_, he, fun v q => nomatch q⟩
    · rw [z]; exact ⟨o, ho, fun v q => by rw [hd] at q; cases q⟩
  keep := fun i h h' st k => let ⟨⟨old, he⟩, hi, ne⟩ := st; ⟨⟨old, k e (by simp) _ he⟩, hi.at fun o q => k it (by simp) o q, ne⟩
  item := by
    intro X hP hw hK hc i pins s σ H E I hf st hg
    subst hP hw hK
    obtain ⟨⟨old, he⟩, hit, ne⟩ := st
    obtain ⟨xs, x, hq, hx⟩ := hg
    obtain ⟨its, rv, p, hz⟩ := I.tuple hq
    obtain ⟨u, hu, ru⟩ := rv.get hx
    have el : e < s.heap.objs.size := Heap.lt_size he
    have il : it < s.heap.objs.size := by obtain ⟨_, q, _⟩ := hit; exact Heap.lt_size q
    have ai : a ≠ it := fun z => by
      obtain ⟨o1, q1, c1, _⟩ := hit
      obtain ⟨o2, q2, c2, _⟩ := p
      rw [z, q1] at q2
      cases q2
      rw [c1] at c2
      exact absurd c2 (by decide)
    have ae : a ≠ e := fun z => by
      obtain ⟨o2, q2, c2, _⟩ := p
      have q1 : s.heap.get? e = _ := he
      rw [z, q1] at q2
      cases q2
      exact absurd c2 (by show ¬ Value.type "enumerate" = Value.type "tuple"; decide)
    have D := Draws.tuple (prog := X.prog) (w := X.w) (A := X.A.in1) (I.ok.hd hc) it a ai its.toArray
    have isT : s.heap.IsTuple a its.toArray := p
    have lt : i < its.toArray.size := by rw [List.size_toArray]; exact (List.getElem?_eq_some_iff.mp hu).1
    refine wpAny_pyNext_enum_itemC D he ⟨hit, isT⟩ lt ne (by simp [ne, Ne.symm ae]) fun y h' tk hy ho st' hT hsz hk => ?_
    have ey : y = u := by
      have hy' : its.toArray[i]? = some y := hy
      rw [List.getElem?_toArray, hu] at hy'
      exact (Option.some.inj hy').symm
    subst ey
    refine ⟨_, rfl, wpAny_letOwnedTupleGo_enum (s := { s with heap := h', toks := tk + 1 }) ho fun h2 he2 sb => ?_⟩
    have hT2 : h2.get? s.heap.objs.size = some { cls := .type "tuple", data := .seq #[.int (c + (i : Int)) tk, y] } := (sb.2 _ (Nat.ne_of_gt el)).trans hT
    have new : ObjOk X.prog X.w (upd H s.heap.objs.size (.tup [.int (c + (i : Int)), x])) h2 s.heap.objs.size (.tup [.int (c + (i : Int)), x]) := ⟨by show 2 ≤ sizeLine; decide, [.int (c + (i : Int)) tk, y], .cons ⟨_, rfl⟩ (.cons ru .nil), ⟨_, hT2, rfl, _, rfl⟩⟩
    have I1 : Inv X pins σ (upd H s.heap.objs.size (.tup [.int (c + (i : Int)), x])) { s with heap := h2, toks := tk + 1 } :=
      I.turnedNew (ch := [e, it]) (fun b ob hb q => (sb.2 b (fun z => hb (by simp [z]))).trans (hk b ob (fun z => hb (by simp [z])) (fun z => hb (by simp [z])) q)) hf (Nat.le_refl _) new
    refine ⟨.ref s.heap.objs.size, _, I1, rfl, ⟨_, x, rfl, I.hok.fresh (Nat.le_refl _), rfl, fun ys hy2 => ?_⟩, ⟨⟨y, ?_⟩, st'.1.at fun o q => (sb.2 it (Ne.symm ne)).trans q, ne⟩, fun b hb => ?_⟩
    · rw [I.tuple_inj hy2 hq]; exact hx
    · rw [show c + ((i + 1 : Nat) : Int) = c + (i : Int) + 1 by omega]; exact he2
    · have hb' : b < s.heap.objs.size := by
        rcases (by simpa using hb : b = e ∨ b = it) with z | z
        · rw [z]; exact el
        · rw [z]; exact il
      rw [upd_ne (Nat.ne_of_lt hb')]
      exact (hf b hb).1
  done := by
    intro X hP hw hK hc i pins s σ H E I hf st hg
    subst hP hw hK
    obtain ⟨⟨old, he⟩, hit, ne⟩ := st
    obtain ⟨xs, hq, hx⟩ := hg
    obtain ⟨its, rv, p, hz⟩ := I.tuple hq
    obtain ⟨f0, f1, f2, f3, f4, f5⟩ := hf it (by simp)
    have hl := rv.length
    have isT : s.heap.IsTuple a its.toArray := p
    have D0 : Draws X.prog X.w X.A.in1 it [it, a] 0 (fun _ _ => False) (fun _ h => h.IsTupleIter it a i ∧ h.IsTuple a its.toArray) :=
      ⟨fun _ _ st => let ⟨o, ho, _⟩ := st.1; ⟨o, ho⟩, fun _ _ _ st k => ⟨st.1.at fun o q => k it (by simp) o q, st.2.at fun o q => k a (by simp) o q⟩, fun j s Q E lt => absurd lt (Nat.not_lt_zero j), fun s Q E st q => wpAny_nextOf_tuple_end (I.ok.hd hc) st.1 st.2 (by rw [List.getElem?_toArray]; exact List.getElem?_eq_none (by omega)) q⟩
    exact wpAny_pyNext_enum_endD D0 he ⟨hit, isT⟩ fun h' eb => ⟨rfl, I.turned (t' := s.toks) (fun b o hb q => eb b o hb q) f0 f1 f3 f4 f5⟩
  self := fun A i s Q E st h => let ⟨⟨_, he⟩, _⟩ := st; wpAny_pyIter_enum he h
/-- enumerate(v): its two new cells -/
theorem meets_enum1 {v : Value} {o : Obj} {Hh : Heap → Prop} (B : Begins v o Hh) :
    Meets (Builtin.«enumerate.__new__» ⟨[.type "enumerate", v], []⟩) (fun _ R s => Hh s.heap ∧ R (.ok (.ret (.ref (s.heap.push o).objs.size))) { s with heap := (s.heap.push o).push { cls := .type "enumerate", data := .fields #[.none, .bool false, .ref s.heap.objs.size, rawInt 0, .none, .none] } }) :=
  .of_wp fun prog w A R s h => by
    obtain ⟨hp, g, d, tk, os⟩ := s
    obtain ⟨h1, h⟩ := h
    have sub := sub_enumerate
    have q1 : ∀ {A' : Around} {E : Value → Shared → Prop} {Q : Value → Shared → Prop}, Q (.ref hp.objs.size) ⟨hp.push o, g, d, tk, os⟩ → wpAny (model prog w) A' (pyIter v) Q E ⟨hp, g, d, tk, os⟩ := fun q => B.iter prog w _ _ ⟨hp, g, d, tk, os⟩ _ h1 q
    wp_walk using q1
    refine wpAny_stack_any fun st => wpAny_pure ?_
    split
    · rename_i c _ _ _ _ _
      cases (c == Value.type "enumerate") <;> (wp_walk using q1; exact ⟨_, rfl, h⟩)
    · wp_walk using q1
      exact ⟨_, rfl, h⟩
theorem enum_begins1 {prog : Program} {w : World} {A : Around} {E : Value → Shared → Prop} {s : Shared} {v : Value} {o : Obj} {Hh : Heap → Prop} {Q : Value → Shared → Prop} (B : Begins v o Hh) (h1 : Hh s.heap)
    (h : ∀ h', IsEnum h' (s.heap.objs.size + 1) s.heap.objs.size 0 .none → h'.get? s.heap.objs.size = some o → h'.objs.size = s.heap.objs.size + 2 → (∀ b o, s.heap.get? b = some o → h'.get? b = some o) → Q (.ref (s.heap.objs.size + 1)) { s with heap := h' }) :
    wpAny (model prog w) A (call (.type "enumerate") [v]) Q E s := by
  refine callType_new PySem.F.called_enumerate (by decide) (PySem.F.typeCall_enumerate_1 _) (PySem.F.newCall_enumerate_1 _) (fun obj => PySem.F.args_object_init_2 obj _) PySem.F.entry_enumerate_new (meets_enum1 B) ⟨h1, ?_⟩
  have hz : (s.heap.push o).objs.size = s.heap.objs.size + 1 := Heap.size_push ..
  refine (?_ : _ ∧ _)
  rw [hz]
  have he : IsEnum ((s.heap.push o).push { cls := .type "enumerate", data := .fields #[.none, .bool false, .ref s.heap.objs.size, rawInt 0, .none, .none] }) (s.heap.objs.size + 1) s.heap.objs.size 0 .none := hz ▸ Heap.get?_push_size (s.heap.push o) (o := { cls := .type "enumerate", data := .fields #[.none, .bool false, .ref s.heap.objs.size, rawInt 0, .none, .none] }) rfl
  exact ⟨⟨_, he, rfl⟩, h _ he (Heap.get?_push_of_some _ (Heap.get?_push_size _ B.free)) (by rw [Heap.size_push, hz]) fun b o x => Heap.get?_push_of_some _ (Heap.get?_push_of_some _ x)⟩
section
variable {X : Cx}
theorem enum_over {pins : List (Addr × Obj)} {σ : L2.St} {H1 : Hp} {s1 : Shared} {elts : List Expr} {kk : Nat} {tpos : Pos} {R : It → Hp → Prop} {a : Addr} {xs : List V} {c : Int} (I1 : Inv X pins σ H1 s1) (hq : SqT X.K H1 a xs) (q : R (IteT X.K a c) H1) {h' : Heap}
    (he : IsEnum h' (s1.heap.objs.size + 1) s1.heap.objs.size c .none) (hi : h'.get? s1.heap.objs.size = some { cls := .type "tuple_iterator", data := .fields #[.ref a, .int 0 0] }) (hk : ∀ b o, s1.heap.get? b = some o → h'.get? b = some o) :
    wpAny (model X.prog X.w) X.A (pyIter (.ref (s1.heap.objs.size + 1))) (PIE X pins σ (.Tuple elts kk tpos) R) X.xe { s1 with heap := h' } := by
  refine wpAny_pyIter_enum he ?_
  have I2 : Inv X pins σ H1 { s1 with heap := h' } := I1.kept (t' := s1.toks) hk
  refine ⟨s1.heap.objs.size + 1, [s1.heap.objs.size + 1, s1.heap.objs.size], _, _, H1, rfl, I2, turn_enumT a (s1.heap.objs.size + 1) s1.heap.objs.size c, ⟨⟨.none, ?_⟩, ⟨_, hi, rfl, rfl⟩, Nat.succ_ne_self _⟩, fun b hb => ?_, q⟩
  · rw [show c + ((0 : Nat) : Int) = c by omega]; exact he
  · have hle : s1.heap.objs.size ≤ b := by
      rcases (by simpa using hb : b = s1.heap.objs.size + 1 ∨ b = s1.heap.objs.size) with z | z
      · rw [z]; exact Nat.le_add_right _ _
      · rw [z]; exact Nat.le_refl _
    exact I1.fpOk hle (I1.hok.fresh hle)
def iEnumT (K : PySem.W.Frag) (ta : TA) : TI := fun σ H R => ta σ H fun vs H1 => ∃ a xs, vs = [.ref a] ∧ SqT K H1 a xs ∧ R (IteT K a 0) H1
theorem pi_enumT {e : Expr} {ta : TA} {p pos tpos : Pos} {elts : List Expr} {kk : Nat} (hg : Gl X "enumerate") (hm : X.mg "enumerate" = none) (ha : PA X [e] ta) (hs : starEach [e] X.env = [(false, eval e X.env)] := by rfl) :
    PI X (.Tuple elts kk tpos) (.Call (.Name "enumerate" p) [e] [] pos) (iEnumT X.K ta) := by
  refine ⟨fun pins s σ H R I h => Call_ (ld_blt I hg hm boot_enumerate (PyProof.Rows.callWith_type1 (thn (ha.run pos pins s σ H _ I h) fun us s1 ⟨vs, H1, I1, r1, q1⟩ => ?_) hs rfl))⟩
  obtain ⟨a, xs, rfl, hq, q⟩ := q1
  rw [Vals.ref1 r1]
  obtain ⟨its, rv, p', hz⟩ := I1.tuple hq
  exact enum_begins1 (begins_tuple a its.toArray) p' fun h' he hi hsz hk => enum_over I1 hq q he hi hk
def iEnumTS (K : PySem.W.Frag) (ta tk : TA) : TI := fun σ H R => ta σ H fun vs H1 => tk σ H1 fun zs H2 => ∃ a xs c, vs = [.ref a] ∧ zs = [.int c] ∧ 0 ≤ c ∧ c < 2 ^ 62 ∧ SqT K H2 a xs ∧ R (IteT K a c) H2
theorem callWith_typeK {M : Model} {A : Around} {E : Value → Shared → Prop} {s : Shared} {pos : Pos} {T : String} {first : List Value} {args : List (Bool × Sem Value)} {kw : List (Option Str × Sem Value)} {Q : Value → Shared → Prop} (pl : args.any (·.1) = false) (kn : kw.any (·.1.isNone) = false)
    (h : wpAny M A (evalArgs (.type T) true args kw) (fun a s1 => wpAny M A (call (.type T) (first ++ a.pos) a.kw) Q E s1) E s) : wpAny M A (callWith pos (.type T) first args kw) Q E s := by
  unfold callWith
  refine wpAny_bind (wpAny_holding (wpAny_mono h (fun a s1 h1 => wpAny_bind (wpAny_standAt ?_)) fun _ _ z => z))
  simp only [pl, kn, Bool.or_false]
  exact wpAny_bind (wpAny_pure (wpAny_bind (wpAny_mono h1 (fun r s2 hr => wpAny_bind (wpAny_holding (wpAny_point (wpAny_pure hr)))) fun _ _ z => z)))
theorem pi_enumTS {e e2 : Expr} {ta tk : TA} {p pos tpos kpos : Pos} {elts : List Expr} {kk : Nat} (hg : Gl X "enumerate") (hm : X.mg "enumerate" = none) (ha : PA X [e] ta) (hk : PK X [⟨some "start", e2, kpos⟩] tk) (hs : starEach [e] X.env = [(false, eval e X.env)] := by rfl) :
    PI X (.Tuple elts kk tpos) (.Call (.Name "enumerate" p) [e] [⟨some "start", e2, kpos⟩] pos) (iEnumTS X.K ta tk) := by
  refine ⟨fun pins s σ H R I h => wpAny_Call_Name_kw (ld_blt I hg hm boot_enumerate (callWith_typeK ?_ (by rfl) ?_))⟩
  · rw [hs]; rfl
  rw [hs]
  refine PyProof.Rows.evalArgs_kwB (by rfl) ?_
  have run := ha.run pos pins s σ H _ I h
  rw [hs] at run
  refine thn run fun us s1 ⟨vs, H1, I1, r1, q1⟩ => thn (hk.run pos pins s1 σ H1 _ I1 q1) fun ws s2 ⟨zs, H2, I2, r2, q2⟩ => ?_
  obtain ⟨a, xs, c, rfl, rfl, c0, c1, hq, q⟩ := q2
  rw [Vals.ref1 r1]
  obtain ⟨u, rfl, t, rfl⟩ := vals1 r2
  obtain ⟨its, rv, p', hz⟩ := I2.tuple hq
  exact enum_begins_start (begins_tuple a its.toArray) p' (by omega) (by omega) fun h' he hi hsz hk' => enum_over I2 hq q he hi hk'
end
theorem walk_enumT {K : PySem.W.Frag} {a : Addr} {xs : List V} {c : Int} : Walk (IteT K a c) xs.length (fun H => SqT K H a xs) (YPair (fun i => some (.int (c + (i : Int)))) (fun i => xs[i]?)) := by
  refine ⟨fun i _ hi q => ⟨xs, xs[i], q, List.getElem?_eq_getElem hi⟩, fun _ q => ⟨xs, q, Nat.le_refl _⟩, fun i H v H' _ q y => ?_⟩
  obtain ⟨T, x, h1, h2, h3, h4⟩ := y
  exact ⟨T, .int (c + (i : Int)), x, h1, h2, h3, rfl, h4 xs q⟩
/-! ### enumerate over a list, from a number on -/
def IteL (K : PySem.W.Frag) (a : Addr) (c : Int) : It :=
  ⟨fun i H => ∃ (xs : List V) (x : V), SqL K H a xs ∧ xs[i]? = some x, fun i H v H' => ∃ T x, v = .ref T ∧ H T = none ∧ H' = upd H T (.tup [.int (c + (i : Int)), x]) ∧ ∀ xs, SqL K H a xs → xs[i]? = some x, fun i H => ∃ xs : List V, SqL K H a xs ∧ xs.length ≤ i⟩
theorem turn_enumL {P : Program} {w : World} {K : PySem.W.Frag} {elts : List Expr} {kk : Nat} {tpos : Pos} (a e it : Addr) (c : Int) :
    Turn P w K (.Tuple elts kk tpos) (IteL K a c) [e, it] e (fun i h => (∃ old, IsEnum h e it (c + (i : Int)) old) ∧ h.IsListIter it a i ∧ e ≠ it) where
  mem := by simp
  obj := fun i h st b hb => by
    obtain ⟨⟨old, he⟩, ⟨o, ho, hc, hd⟩, _⟩ := st
    rcases (by simpa using hb : b = e ∨ b = it) with z | z
    · rw [z]; exact ⟨_, he, fun v q => nomatch q⟩
    · rw [z]; exact ⟨o, ho, fun v q => by rw [hd] at q; cases q⟩
  keep := fun i h h' st k => let ⟨⟨old, he⟩, hi, ne⟩ := st; ⟨⟨old, k e (by simp) _ he⟩, hi.at fun o q => k it (by simp) o q, ne⟩
  item := by
    intro X hP hw hK hc i pins s σ H E I hf st hg
    subst hP hw hK
    obtain ⟨⟨old, he⟩, hit, ne⟩ := st
    obtain ⟨xs, x, hq, hx⟩ := hg
    obtain ⟨its, rv, pl, hz⟩ := I.list hq
    have p := pl.isList
    obtain ⟨u, hu, ru⟩ := rv.get hx
    have el : e < s.heap.objs.size := Heap.lt_size he
    have il : it < s.heap.objs.size := by obtain ⟨_, q, _⟩ := hit; exact Heap.lt_size q
    have ai : a ≠ it := fun z => by
      obtain ⟨o1, q1, c1, _⟩ := hit
      obtain ⟨o2, q2, c2, _⟩ := p
      rw [z, q1] at q2
      cases q2
      rw [c1] at c2
      exact absurd c2 (by decide)
    have ae : a ≠ e := fun z => by
      obtain ⟨o2, q2, c2, _⟩ := p
      have q1 : s.heap.get? e = _ := he
      rw [z, q1] at q2
      cases q2
      exact absurd c2 (by show ¬ Value.type "enumerate" = Value.type "list"; decide)
    have D := Draws.list (prog := X.prog) (w := X.w) (A := X.A.in1) (I.ok.hd hc) it a ai its.toArray
    have isT : s.heap.IsList a its.toArray := p
    have lt : i < its.toArray.size := by rw [List.size_toArray]; exact (List.getElem?_eq_some_iff.mp hu).1
    refine wpAny_pyNext_enum_itemC D he ⟨hit, isT⟩ lt ne (by simp [ne, Ne.symm ae]) fun y h' tk hy ho st' hT hsz hk => ?_
    have ey : y = u := by
      have hy' : its.toArray[i]? = some y := hy
      rw [List.getElem?_toArray, hu] at hy'
      exact (Option.some.inj hy').symm
    subst ey
    refine ⟨_, rfl, wpAny_letOwnedTupleGo_enum (s := { s with heap := h', toks := tk + 1 }) ho fun h2 he2 sb => ?_⟩
    have hT2 : h2.get? s.heap.objs.size = some { cls := .type "tuple", data := .seq #[.int (c + (i : Int)) tk, y] } := (sb.2 _ (Nat.ne_of_gt el)).trans hT
    have new : ObjOk X.prog X.w (upd H s.heap.objs.size (.tup [.int (c + (i : Int)), x])) h2 s.heap.objs.size (.tup [.int (c + (i : Int)), x]) := ⟨by show 2 ≤ sizeLine; decide, [.int (c + (i : Int)) tk, y], .cons ⟨_, rfl⟩ (.cons ru .nil), ⟨_, hT2, rfl, _, rfl⟩⟩
    have I1 : Inv X pins σ (upd H s.heap.objs.size (.tup [.int (c + (i : Int)), x])) { s with heap := h2, toks := tk + 1 } :=
      I.turnedNew (ch := [e, it]) (fun b ob hb q => (sb.2 b (fun z => hb (by simp [z]))).trans (hk b ob (fun z => hb (by simp [z])) (fun z => hb (by simp [z])) q)) hf (Nat.le_refl _) new
    refine ⟨.ref s.heap.objs.size, _, I1, rfl, ⟨_, x, rfl, I.hok.fresh (Nat.le_refl _), rfl, fun ys hy2 => ?_⟩, ⟨⟨y, ?_⟩, st'.1.at fun o q => (sb.2 it (Ne.symm ne)).trans q, ne⟩, fun b hb => ?_⟩
    · rw [I.list_inj hy2 hq]; exact hx
    · rw [show c + ((i + 1 : Nat) : Int) = c + (i : Int) + 1 by omega]; exact he2
    · have hb' : b < s.heap.objs.size := by
        rcases (by simpa using hb : b = e ∨ b = it) with z | z
        · rw [z]; exact el
        · rw [z]; exact il
      rw [upd_ne (Nat.ne_of_lt hb')]
      exact (hf b hb).1
  done := by
    intro X hP hw hK hc i pins s σ H E I hf st hg
    subst hP hw hK
    obtain ⟨⟨old, he⟩, hit, ne⟩ := st
    obtain ⟨xs, hq, hx⟩ := hg
    obtain ⟨its, rv, pl, hz⟩ := I.list hq
    have p := pl.isList
    obtain ⟨f0, f1, f2, f3, f4, f5⟩ := hf it (by simp)
    have hl := rv.length
    have isT : s.heap.IsList a its.toArray := p
    have D0 : Draws X.prog X.w X.A.in1 it [it, a] 0 (fun _ _ => False) (fun _ h => h.IsListIter it a i ∧ h.IsList a its.toArray) :=
      ⟨fun _ _ st => let ⟨o, ho, _⟩ := st.1; ⟨o, ho⟩, fun _ _ _ st k => ⟨st.1.at fun o q => k it (by simp) o q, st.2.at fun o q => k a (by simp) o q⟩, fun j s Q E lt => absurd lt (Nat.not_lt_zero j), fun s Q E st q => wpAny_nextOf_list_end (I.ok.hd hc) st.1 st.2 (by rw [List.getElem?_toArray]; exact List.getElem?_eq_none (by omega)) q⟩
    exact wpAny_pyNext_enum_endD D0 he ⟨hit, isT⟩ fun h' eb => ⟨rfl, I.turned (t' := s.toks) (fun b o hb q => eb b o hb q) f0 f1 f3 f4 f5⟩
  self := fun A i s Q E st h => let ⟨⟨_, he⟩, _⟩ := st; wpAny_pyIter_enum he h
/-- enumerate(v): its two new cells -/
theorem meets_enum1L {v : Value} {o : Obj} {Hh : Heap → Prop} (B : Begins v o Hh) :
    Meets (Builtin.«enumerate.__new__» ⟨[.type "enumerate", v], []⟩) (fun _ R s => Hh s.heap ∧ R (.ok (.ret (.ref (s.heap.push o).objs.size))) { s with heap := (s.heap.push o).push { cls := .type "enumerate", data := .fields #[.none, .bool false, .ref s.heap.objs.size, rawInt 0, .none, .none] } }) :=
  .of_wp fun prog w A R s h => by
    obtain ⟨hp, g, d, tk, os⟩ := s
    obtain ⟨h1, h⟩ := h
    have sub := sub_enumerate
    have q1 : ∀ {A' : Around} {E : Value → Shared → Prop} {Q : Value → Shared → Prop}, Q (.ref hp.objs.size) ⟨hp.push o, g, d, tk, os⟩ → wpAny (model prog w) A' (pyIter v) Q E ⟨hp, g, d, tk, os⟩ := fun q => B.iter prog w _ _ ⟨hp, g, d, tk, os⟩ _ h1 q
    wp_walk using q1
    refine wpAny_stack_any fun st => wpAny_pure ?_
    split
    · rename_i c _ _ _ _ _
      cases (c == Value.type "enumerate") <;> (wp_walk using q1; exact ⟨_, rfl, h⟩)
    · wp_walk using q1
      exact ⟨_, rfl, h⟩
theorem enum_begins1L {prog : Program} {w : World} {A : Around} {E : Value → Shared → Prop} {s : Shared} {v : Value} {o : Obj} {Hh : Heap → Prop} {Q : Value → Shared → Prop} (B : Begins v o Hh) (h1 : Hh s.heap)
    (h : ∀ h', IsEnum h' (s.heap.objs.size + 1) s.heap.objs.size 0 .none → h'.get? s.heap.objs.size = some o → h'.objs.size = s.heap.objs.size + 2 → (∀ b o, s.heap.get? b = some o → h'.get? b = some o) → Q (.ref (s.heap.objs.size + 1)) { s with heap := h' }) :
    wpAny (model prog w) A (call (.type "enumerate") [v]) Q E s := by
  refine callType_new PySem.F.called_enumerate (by decide) (PySem.F.typeCall_enumerate_1 _) (PySem.F.newCall_enumerate_1 _) (fun obj => PySem.F.args_object_init_2 obj _) PySem.F.entry_enumerate_new (meets_enum1L B) ⟨h1, ?_⟩
  have hz : (s.heap.push o).objs.size = s.heap.objs.size + 1 := Heap.size_push ..
  refine (?_ : _ ∧ _)
  rw [hz]
  have he : IsEnum ((s.heap.push o).push { cls := .type "enumerate", data := .fields #[.none, .bool false, .ref s.heap.objs.size, rawInt 0, .none, .none] }) (s.heap.objs.size + 1) s.heap.objs.size 0 .none := hz ▸ Heap.get?_push_size (s.heap.push o) (o := { cls := .type "enumerate", data := .fields #[.none, .bool false, .ref s.heap.objs.size, rawInt 0, .none, .none] }) rfl
  exact ⟨⟨_, he, rfl⟩, h _ he (Heap.get?_push_of_some _ (Heap.get?_push_size _ B.free)) (by rw [Heap.size_push, hz]) fun b o x => Heap.get?_push_of_some _ (Heap.get?_push_of_some _ x)⟩
section
variable {X : Cx}
theorem enum_overL {pins : List (Addr × Obj)} {σ : L2.St} {H1 : Hp} {s1 : Shared} {elts : List Expr} {kk : Nat} {tpos : Pos} {R : It → Hp → Prop} {a : Addr} {xs : List V} {c : Int} (I1 : Inv X pins σ H1 s1) (hq : SqL X.K H1 a xs) (q : R (IteL X.K a c) H1) {h' : Heap}
    (he : IsEnum h' (s1.heap.objs.size + 1) s1.heap.objs.size c .none) (hi : h'.get? s1.heap.objs.size = some { cls := .type "list_iterator", data := .fields #[.ref a, .int 0 0] }) (hk : ∀ b o, s1.heap.get? b = some o → h'.get? b = some o) :
    wpAny (model X.prog X.w) X.A (pyIter (.ref (s1.heap.objs.size + 1))) (PIE X pins σ (.Tuple elts kk tpos) R) X.xe { s1 with heap := h' } := by
  refine wpAny_pyIter_enum he ?_
  have I2 : Inv X pins σ H1 { s1 with heap := h' } := I1.kept (t' := s1.toks) hk
  refine ⟨s1.heap.objs.size + 1, [s1.heap.objs.size + 1, s1.heap.objs.size], _, _, H1, rfl, I2, turn_enumL a (s1.heap.objs.size + 1) s1.heap.objs.size c, ⟨⟨.none, ?_⟩, ⟨_, hi, rfl, rfl⟩, Nat.succ_ne_self _⟩, fun b hb => ?_, q⟩
  · rw [show c + ((0 : Nat) : Int) = c by omega]; exact he
  · have hle : s1.heap.objs.size ≤ b := by
      rcases (by simpa using hb : b = s1.heap.objs.size + 1 ∨ b = s1.heap.objs.size) with z | z
      · rw [z]; exact Nat.le_add_right _ _
      · rw [z]; exact Nat.le_refl _
    exact I1.fpOk hle (I1.hok.fresh hle)
def iEnumL (K : PySem.W.Frag) (ta : TA) : TI := fun σ H R => ta σ H fun vs H1 => ∃ a xs, vs = [.ref a] ∧ SqL K H1 a xs ∧ R (IteL K a 0) H1
theorem pi_enumL {e : Expr} {ta : TA} {p pos tpos : Pos} {elts : List Expr} {kk : Nat} (hg : Gl X "enumerate") (hm : X.mg "enumerate" = none) (ha : PA X [e] ta) (hs : starEach [e] X.env = [(false, eval e X.env)] := by rfl) :
    PI X (.Tuple elts kk tpos) (.Call (.Name "enumerate" p) [e] [] pos) (iEnumL X.K ta) := by
  refine ⟨fun pins s σ H R I h => Call_ (ld_blt I hg hm boot_enumerate (PyProof.Rows.callWith_type1 (thn (ha.run pos pins s σ H _ I h) fun us s1 ⟨vs, H1, I1, r1, q1⟩ => ?_) hs rfl))⟩
  obtain ⟨a, xs, rfl, hq, q⟩ := q1
  rw [Vals.ref1 r1]
  obtain ⟨its, rv, pl, hz⟩ := I1.list hq
  have p' := pl.isList
  exact enum_begins1L (begins_list a its.toArray) p' fun h' he hi hsz hk => enum_overL I1 hq q he hi hk
def iEnumLS (K : PySem.W.Frag) (ta tk : TA) : TI := fun σ H R => ta σ H fun vs H1 => tk σ H1 fun zs H2 => ∃ a xs c, vs = [.ref a] ∧ zs = [.int c] ∧ 0 ≤ c ∧ c < 2 ^ 62 ∧ SqL K H2 a xs ∧ R (IteL K a c) H2
theorem pi_enumLS {e e2 : Expr} {ta tk : TA} {p pos tpos kpos : Pos} {elts : List Expr} {kk : Nat} (hg : Gl X "enumerate") (hm : X.mg "enumerate" = none) (ha : PA X [e] ta) (hk : PK X [⟨some "start", e2, kpos⟩] tk) (hs : starEach [e] X.env = [(false, eval e X.env)] := by rfl) :
    PI X (.Tuple elts kk tpos) (.Call (.Name "enumerate" p) [e] [⟨some "start", e2, kpos⟩] pos) (iEnumLS X.K ta tk) := by
  refine ⟨fun pins s σ H R I h => wpAny_Call_Name_kw (ld_blt I hg hm boot_enumerate (callWith_typeK ?_ (by rfl) ?_))⟩
  · rw [hs]; rfl
  rw [hs]
  refine PyProof.Rows.evalArgs_kwB (by rfl) ?_
  have run := ha.run pos pins s σ H _ I h
  rw [hs] at run
  refine thn run fun us s1 ⟨vs, H1, I1, r1, q1⟩ => thn (hk.run pos pins s1 σ H1 _ I1 q1) fun ws s2 ⟨zs, H2, I2, r2, q2⟩ => ?_
  obtain ⟨a, xs, c, rfl, rfl, c0, c1, hq, q⟩ := q2
  rw [Vals.ref1 r1]
  obtain ⟨u, rfl, t, rfl⟩ := vals1 r2
  obtain ⟨its, rv, pl, hz⟩ := I2.list hq
  have p' := pl.isList
  exact enum_begins_start (begins_list a its.toArray) p' (by omega) (by omega) fun h' he hi hsz hk' => enum_overL I2 hq q he hi hk'
end
theorem walk_enumL {K : PySem.W.Frag} {a : Addr} {xs : List V} {c : Int} : Walk (IteL K a c) xs.length (fun H => SqL K H a xs) (YPair (fun i => some (.int (c + (i : Int)))) (fun i => xs[i]?)) := by
  refine ⟨fun i _ hi q => ⟨xs, xs[i], q, List.getElem?_eq_getElem hi⟩, fun _ q => ⟨xs, q, Nat.le_refl _⟩, fun i H v H' _ q y => ?_⟩
  obtain ⟨T, x, h1, h2, h3, h4⟩ := y
  exact ⟨T, .int (c + (i : Int)), x, h1, h2, h3, rfl, h4 xs q⟩
/-! ### *x, y = a list; a statement that is never come to; str(..) of a number or a text -/
section
variable {X : Cx}
theorem ps_never {st : Stmt} : PS X st (fun _ _ _ => False) := ⟨fun _ _ _ _ _ _ z => z.elim⟩
theorem call_strA : CallR X (.type "str") (fun xs H Q => (∃ i : Int, xs = [.int i] ∧ i.natAbs.log2 < 1920 ∧ Q (.str (toString i)) H) ∨ ∃ a, xs = [.str a] ∧ Q (.str a) H) := by
  intro pins s σ H xs us Q I r h
  rcases h with h | h
  · exact call_str_int pins s σ H xs us Q I r h
  · exact SkE.call_str_str pins s σ H xs us Q I r h
def gStar (K : PySem.W.Frag) (t : TGs) : TG := fun v σ H Q => ∃ (a : Addr) (ys : List V) (y : V), v = .ref a ∧ SqL K H a (ys ++ [y]) ∧ ys.length < 16000 ∧ ∀ D, H D = none → t [.ref D, y] σ (upd H D (.lst ys)) Q
theorem pgs_star {e : Expr} {es : List Expr} {sp : Pos} {t : TG} {u : TGs} (h1 : PG X e t) (h2 : PGs X es u)
    (hs : (assignEach (.Starred e sp :: es) X.env).map (·.2) = assign e X.env :: (assignEach es X.env).map (·.2) := by rfl) : PGs X (.Starred e sp :: es) (gCons t u) := by
  refine ⟨fun pins s σ H vs us Q I r h => ?_⟩
  obtain ⟨v, vr, rfl, h⟩ := h
  cases r with
  | cons rv rr =>
    rw [hs]
    exact assignInOrder_cons (thn (h1.run pins s σ H _ _ _ I rv h) fun _ s1 ⟨σ1, H1, I1, q1⟩ => h2.run pins s1 σ1 H1 _ _ Q I1 rr q1)
theorem pg_star {es : List Expr} {k : Nat} {pos : Pos} {t : TGs} (hc : X.calm = true) (h : PGs X es t)
    (two : (assignEach es X.env).length = 2 := by rfl) (first : (assignEach es X.env).findIdx? (·.1) = some 0 := by rfl) : PG X (.Tuple es k pos) (gStar X.K t) := by
  refine ⟨fun pins s σ H v u Q I r hw => ?_⟩
  obtain ⟨a, ys, y, rfl, hq, hz, hw⟩ := hw
  cases r
  obtain ⟨its, rv, pl, lz⟩ := I.list hq
  have isL : s.heap.IsList a its.toArray := pl.isList
  have calm := I.ok.hd hc
  have li : its.length = ys.length + 1 := by rw [← rv.length, List.length_append, List.length_singleton]
  obtain ⟨us, w1, rfl, ru, rw1⟩ : ∃ us w1, its = us ++ [w1] ∧ Vals ys us ∧ RelV y w1 := by
    clear hq hw isL pl hz li lz
    induction ys generalizing its with
    | nil =>
      cases rv with
      | cons q rn =>
        cases rn
        exact ⟨[], _, rfl, .nil, q⟩
    | cons x ys ih =>
      cases rv with
      | cons q rn =>
        obtain ⟨us, w1, e, e1, e2⟩ := ih _ rn
        exact ⟨_ :: us, w1, by rw [e]; rfl, .cons q e1, e2⟩
  have lu : us.length = ys.length := ru.length.symm
  have apart : a ≠ s.heap.objs.size := by
    obtain ⟨ob, at1, _⟩ := isL
    exact Nat.ne_of_lt (Heap.lt_size at1)
  rw [PyProof.Rows.assign_Tuple]
  refine wpAny_bind (wpAny_standAt ?_)
  unfold unpack
  rw [two, first]
  refine wpAny_bind (wpAny_holding ?_)
  unfold unpackItems
  refine wpAny_bind (show wpAny _ _ (notIterableAtAll (.ref a)) _ _ s from ?_)
  unfold notIterableAtAll
  refine wpAny_bind (wpAny_specialOf isL.typeIs slot_list_iter.lookup (wpAny_pure ?_))
  simp only [Bool.false_eq_true, if_false]
  refine wpAny_bind (wpAny_holding (wpAny_pyIter_list isL ?_))
  refine wpAny_bind (wpAny_holding (PySem.W.kun_draw apart 0 0 _ _ ⟨_, Heap.get?_push_size _ rfl, rfl, rfl⟩ (isL.push _) (Nat.zero_le _) fun g1 at1 sb1 => ?_))
  have isL1 : g1.IsList a (us ++ [w1]).toArray := (isL.push _).extBut sb1.extBut apart
  obtain ⟨oi, ati, _⟩ := id at1
  obtain ⟨ol, atl, _⟩ := id isL1
  rw [List.take_zero]
  refine wp_if_neg (by decide) ?_
  refine wpAny_bind (wpAny_holding (PySem.W.kun_collect (s := { s with heap := g1 }) (T := "list_iterator") (.inr (.inr (.inl rfl))) (Walks.list (A := X.A.in1) calm s.heap.objs.size a apart (us ++ [w1]).toArray) (fun j u st => st.1.typeIs) (k := 0) (Nat.zero_le _) ⟨at1, isL1⟩ (Heap.lt_size ati) (Heap.lt_size atl) (fun g2 tk old => ?_) (by rw [List.size_toArray, List.length_append, List.length_singleton, sizeLine_eq]; omega)))
  have l0 : (us ++ [w1]).toArray.toList = us ++ [w1] := rfl
  rw [List.drop_zero, l0]
  have ln : (us ++ [w1]).length = us.length + 1 := by rw [List.length_append, List.length_singleton]
  refine wp_if_neg (by rw [ln]; omega) ?_
  have e1 : (us ++ [w1]).take ((us ++ [w1]).length - (2 - 1 - 0)) = us := by rw [ln, Nat.add_sub_cancel, List.take_left' rfl]
  have e2 : (us ++ [w1]).drop ((us ++ [w1]).length - (2 - 1 - 0)) = [w1] := by rw [ln, Nat.add_sub_cancel, List.drop_left' rfl]
  rw [e1, e2]
  refine wpAny_bind (wpAny_newList (wpAny_pure ?_) (by rw [sizeLine_eq]; omega))
  have old2 : ∀ b o, s.heap.get? b = some o → g2.get? b = some o := fun b o e => old b o (Nat.ne_of_lt (Heap.lt_size e)) (sb1.extBut b o (Nat.ne_of_lt (Heap.lt_size e)) (Heap.get?_push_of_some _ e))
  have I1 : Inv X pins σ H { s with heap := g2, toks := tk } := I.kept (t' := tk) old2
  have fresh : H g2.objs.size = none := I1.hok.fresh (Nat.le_refl _)
  have I2 : Inv X pins σ (upd H g2.objs.size (.lst ys)) { s with heap := g2.push (seqObj "list" us.toArray 0), toks := tk } :=
    I1.laid (t' := tk) (fun b o e => Heap.get?_push_of_some _ e) (Nat.le_refl _) ⟨by rw [sizeLine_eq]; omega, us, 0, ru, Heap.get?_push_size _ rfl⟩
  exact h.run pins _ σ _ [.ref g2.objs.size, y] [.ref g2.objs.size, w1] Q I2 (.cons rfl (.cons rw1 .nil)) (hw _ fresh)
theorem pe_joinK {o e : Expr} {to te : TE} (K : PySem.W.Frag) (hK : X.K = K) {apos pos : Pos} (ho : PE X o to) (he : PE X e te) (hs : starEach [e] X.env = [(false, eval e X.env)] := by rfl) (hbase : attributeBase o "join" X.env (eval o X.env) = eval o X.env := by rfl) (hline : (apos.endLine == pos.line) = true := by rfl) :
    PE X (.Call (.Attribute o "join" apos) [e] [] pos) (tM1 (fun x xs H Q => ∃ a p, ∃ ys : List Str, x = .str a ∧ xs = [.ref p] ∧ (SqL K H p (ys.map V.str) ∨ SqT K H p (ys.map V.str)) ∧
      (ys.map (·.length)).sum + ys.length * a.length ≤ 16777216 ∧ Q (.str (Txt.join a ys)) H) to te) := hK ▸ pe_join ho he hs hbase hline
end
/-! ### a generator expression over a list; int(..) of a text within one -/
theorem over_lst {X : Cx} {s1 : Shared} {a T : Addr} {its : List Value} {ps : Array Value} (calm : X.A.handled = none) (ht : s1.heap.IsList a its.toArray) (hT : s1.heap.get? T = some { cls := .none, data := .fields ps }) : OverOk X (.ref a) s1 its.length (fun i v => its[i]? = some v) T := by
  have al : a < s1.heap.objs.size := by
    obtain ⟨o, ho, _⟩ := ht
    exact Heap.lt_size ho
  have aT : a ≠ T := fun z => by
    obtain ⟨o, ho, hcl, _⟩ := ht
    rw [z, hT] at ho
    cases ho
    cases hcl
  have tT : s1.heap.objs.size ≠ T := fun z => Nat.lt_irrefl _ (z ▸ Heap.lt_size hT)
  have sz : its.toArray.size = its.length := List.size_toArray ..
  refine ⟨{ cls := .type "list_iterator", data := .fields #[.ref a, .int 0 0] }, [s1.heap.objs.size, a], fun i h => h.IsListIter s1.heap.objs.size a i ∧ h.IsList a its.toArray, fun Q E q => wpAny_pyIter_list ht q, fun A' hA => ?_, fun b hb => ?_, fun h' k => ⟨?_, ?_⟩, fun i h st => ?_⟩
  · have W := Walks.list (prog := X.prog) (w := X.w) hA s1.heap.objs.size a (Nat.ne_of_lt al) its.toArray
    rw [sz] at W
    refine { W with item := fun i s Q E hi st hQ => W.item i s Q E hi st fun v h' tk hv => hQ v h' tk (by simpa using hv) }
  · rcases List.mem_cons.mp hb with z | z
    · exact Nat.le_of_eq z
    · rw [List.mem_singleton.mp z]; exact Nat.le_of_lt al
  · exact ⟨_, k _ _ tT (Heap.get?_push_size _ rfl), rfl, rfl⟩
  · obtain ⟨o, ho, r⟩ := ht
    exact ⟨o, k _ _ aT (Heap.get?_push_of_some _ ho), r⟩
  · obtain ⟨⟨o, ho, _⟩, _⟩ := st
    exact ⟨o, ho⟩
section
variable {P : Program} {w : World} {A : Around} {env : Env} {s : Shared} {e : Expr} {pos p : Pos}
abbrev IsS (x : Str) : Value → Prop := fun y => ∃ t, y = .str x t
theorem gv_intT {x : Str} {n : Int} {mg mb : Str → Option Value} (hk : env.scope.kind = .function) (hx : env.kindOf "int" = some .globalImplicit) (hg : s.heap.Ns env.globals mg) (hm : mg "int" = none) (hb : s.heap.Ns env.builtins mb) (hv : mb "int" = some (.type "int"))
    (he : GV P w A env s e (IsS x)) (hn : PySem.intText? x = some n) (hl : x.length ≤ 640) (hs : starEach [e] env = [(false, eval e env)] := by rfl) : GV P w A env s (.Call (.Name "int" p) [e] [] pos) (IsI n) := fun E s1 k => by
  refine Call_Name1 ?_ hs
  refine Calls.Name_function_global hk hx (Calls.loadGlobal_builtin (hg.keeps (keepsH k)) hm (hb.keeps (keepsH k)) hv ?_)
  refine PyProof.Rows.callWith_type (by rfl) ?_
  refine Calls.evalArgs_plain (Calls.spliced_cons (wpAny_mono (he E s1 k) (fun y s2 ⟨⟨t, ey⟩, k2⟩ => ?_) fun _ _ z => z))
  subst ey
  exact Calls.spliced_nil (PySem.W.KIN.call_text hn hl ⟨⟨_, rfl⟩, keepsK k2 _⟩)
end
/-! ### own errors with two fields: raised, caught, asked -/
/-- what the text says of the class at C (over ValueError, by way of the class at B), of its __init__ at fI -/
structure ErrTxt (K : PySem.W.Frag) (mg : Str → Option Value) (x xB f g : Str) (C B fI : Addr) : Prop where
  gC : mg x = some (.ref C)
  gB : mg xB = some (.ref B)
  ox : OexC K C
  xf : XfC K C
  ec : ExcC K C
  iC : PySem.W.findIn K (.ref C) "__init__" = some (some (.ref fI))
  tI : PySem.W.typeIn K (.ref fI) = some (.type "function")
  nf : PySem.W.findIn K (.ref C) f = some none
  ng : PySem.W.findIn K (.ref C) g = some none
  te : PySem.W.exmOne K (.ref C) (.ref C) = some true
  kB : PySem.W.kitOne K (.ref C) (.ref B) = some true
  kV : PySem.W.kitOne K (.ref C) (.type "ValueError") = some true
/-- what __init__ leaves -/
def spInit2 (K : PySem.W.Frag) (C : Addr) (f g : Str) : Sp := fun vs H Q _ => ∃ (a : Addr) (x y : V), vs = [.ref a, x, y] ∧ H a = some (exo a C none) ∧
  ∀ dx, H dx = none → dx ≠ a → Q .non (upd (upd (upd H dx (exd dx [(f, x)])) a (exo a C (some dx))) dx (exd dx [(g, y), (f, x)]))
/-- the class called with two values: what then is to be shown -/
theorem err_two {K : PySem.W.Frag} {C : Addr} {f g : Str} {x y : V} {H1 : Hp} {Q : XK} (k : ∀ d, H1 d = none → Q (.ref C) (some d) (upd H1 d (.xd [(g, y), (f, x)]))) :
    ([x, y] : List V).length ≤ 1000 ∧ ∀ a, H1 a = none → spInit2 K C f g (.ref a :: ([x, y] ++ [])) (upd H1 a (exo a C none))
      (fun v H2 => v = .non ∧ ∃ (d : Addr) (fs : List (Str × V)), H2 a = some (exo a C (some d)) ∧ H2 d = some (exd d fs) ∧ H1 d = none ∧ Q (.ref C) (some d) (upd (del H2 a) d (.xd fs))) (fun _ _ _ => False) := by
  refine ⟨by show 2 ≤ 1000; decide, fun a ha => ⟨a, x, y, rfl, upd_same, fun dx hd ne => ?_⟩⟩
  have hd1 : H1 dx = none := by
    rw [upd_ne ne] at hd
    exact hd
  refine ⟨rfl, dx, [(g, y), (f, x)], ?_, upd_same, hd1, ?_⟩
  · rw [upd_ne (Ne.symm ne), upd_same]
  · have e : upd (del (upd (upd (upd (upd H1 a (exo a C none)) dx (exd dx [(f, x)])) a (exo a C (some dx))) dx (exd dx [(g, y), (f, x)])) a) dx (.xd [(g, y), (f, x)]) = upd H1 dx (.xd [(g, y), (f, x)]) := by
      funext b
      by_cases bd : b = dx
      · rw [bd, upd_same, upd_same]
      · rw [upd_ne bd, upd_ne bd]
        by_cases ba : b = a
        · rw [ba, del_same, ha]
        · rw [del_ne ba, upd_ne bd, upd_ne ba, upd_ne bd, upd_ne ba]
    rw [e]
    exact k dx hd1
/-- isinstance of the caught error -/
def rIsX (K : PySem.W.Frag) (D a : Addr) (cls : Value) (d : Option Addr) : List V → Hp → VK → Prop := fun xs H Q => ∃ (c : V) (cv : Value) (b : Bool) (dd : Addr) (fs : List (Str × V)), xs = [.ref a, c] ∧ cls = .ref D ∧ d = some dd ∧ H dd = some (.xd fs) ∧ (∀ u, RelV c u → u = cv) ∧ PySem.W.kitOne K (.ref D) cv = some b ∧ Q (.bl b) H
theorem call_isX {X : Cx} {a D : Addr} {oe : Obj} {cls : Value} {d : Option Addr} {pn : List (Addr × Obj)} (C : ExcC X.K D) (hz : Zc cls d oe) (hf : ∃ vs, oe.data = .fields vs) : CallR (X.suite a ((a, oe) :: pn)) (.builtin "isinstance") (rIsX X.K D a cls d) := by
  intro pins s σ H xs us Q I r h
  obtain ⟨c, cv, b, dd, fs, rfl, ec, ed, hdd, hcv, e, q⟩ := h
  cases r with
  | cons rx rr =>
    cases rr with
    | cons rt rr =>
      cases rr
      cases rx
      have ecv := hcv _ rt
      subst ecv
      subst ec
      subst ed
      obtain ⟨hget, _⟩ := I.pin (a, oe) (List.mem_append.mpr (.inl List.mem_cons_self))
      obtain ⟨vs, hv⟩ := hf
      have hx : ObjOk X.prog X.w H s.heap dd (.xd fs) := I.hok dd _ hdd
      obtain ⟨mA, hns, hr⟩ := hx
      obtain ⟨od, ho, hl⟩ := lookIn_ns hns
      have J : PySem.W.InstAt s.heap a oe D (some od) := ⟨hget, hz.1, by unfold PySem.W.notCls; rw [hv] <;> rfl, by rw [hz.2]; exact ho⟩
      have hcl : (PySem.W.clsIn X.K D).isSome = true := by
        obtain ⟨cd, hc, _⟩ := PySem.W.any_some C.hd
        rw [hc]
        rfl
      exact PySem.W.kia_one (PySem.W.kitx_exc hcl C.hg C.hk C.hs C.ha C.hn C.ht C.hm) I.kIn J e (fun z => nomatch z) fun tk => ⟨.bl b, H, I.kept (t' := tk) fun _ _ z => z, rfl, q⟩
/-- an error of the class at S is what «except S» names; the class of which it is one -/
theorem exm_self {K : PySem.W.Frag} {S : Addr} (h1 : PySem.W.subIn K (.ref S) (.type "BaseException") = some true) (h2 : PySem.W.isClsIn K S = true) (h3 : PySem.W.typeIn K (.ref S) = some (.type "type")) (h4 : PySem.W.subIn K (.ref S) (.ref S) = some true) :
    PySem.W.exmOne K (.ref S) (.ref S) = some true := by
  have e1 : (PySem.W.subIn K (.ref S) (.type "BaseException") == some true) = true := by rw [h1] <;> rfl
  have e2 : ((PySem.W.clsIn K S).isSome && PySem.W.typeIn K (.ref S) == some (.type "type")) = true := by
    have h2' : (PySem.W.clsIn K S).isSome = true := h2
    rw [h2', h3] <;> rfl
  show (if (PySem.W.subIn K (.ref S) (.type "BaseException") == some true) = true then (if ((PySem.W.clsIn K S).isSome && PySem.W.typeIn K (.ref S) == some (.type "type")) = true then PySem.W.subIn K (.ref S) (.ref S) else none) else none) = some true
  rw [if_pos e1, if_pos e2]
  exact h4
theorem kit_ref {K : PySem.W.Frag} {S B : Addr} (h2 : PySem.W.isClsIn K B = true) (h3 : PySem.W.typeIn K (.ref B) = some (.type "type")) (h4 : PySem.W.subIn K (.ref S) (.ref B) = some true) : PySem.W.kitOne K (.ref S) (.ref B) = some true := by
  have e2 : ((PySem.W.clsIn K B).isSome && PySem.W.typeIn K (.ref B) == some (.type "type")) = true := by
    have h2' : (PySem.W.clsIn K B).isSome = true := h2
    rw [h2', h3] <;> rfl
  show (if (Value.ref S == Value.ref B) = true then some true else (if ((PySem.W.clsIn K B).isSome && PySem.W.typeIn K (.ref B) == some (.type "type")) = true then PySem.W.subIn K (.ref S) (.ref B) else none)) = some true
  rw [if_pos e2, h4]
  split <;> rfl
theorem kit_VE {K : PySem.W.Frag} {S : Addr} (h4 : PySem.W.subIn K (.ref S) (.type "ValueError") = some true) : PySem.W.kitOne K (.ref S) (.type "ValueError") = some true := by
  have e0 : ¬ (Value.ref S == Value.type "ValueError") = true := fun z => by
    have z' := beq_iff_eq.mp z
    cases z'
  have e1 : PySem.W.kitMeta "ValueError" = true := by decide +kernel
  show (if (Value.ref S == Value.type "ValueError") = true then some true else (if PySem.W.kitMeta "ValueError" = true then PySem.W.subIn K (.ref S) (.type "ValueError") else none)) = some true
  rw [if_neg e0, if_pos e1]
  exact h4
/-! ### defs whose calls know that no repr is under way -/
structure FnOkG (P : Program) (w : World) (K : PySem.W.Frag) (mg : Str → Option Value) (base : Heap) (CX : CXT) (k : Nat) (f : Addr) (fd : FuncData) (ps : List Str) (sp : Sp) : Prop where
  len : ∀ vs H Q E, sp vs H Q E → vs.length = ps.length
  run : ∀ (A : Around) (outer : List Env) (s : Shared) (H : Hp) (args : Args) (us : List Value) (vs : List V) (Q : VK) (E : XK), A.guards = some [] → Room k A → Env0 P w K mg base A outer s H → BindsTo s fd args (ps.zip us) → Vals vs us → sp vs H Q E →
    codeAny (model P w) A (.call (.ref f) args) (CR CX outer P w H s Q E) s
theorem fn_ofG {CX : CXT} {P : Program} {w : World} {K : PySem.W.Frag} {mg : Str → Option Value} {base : Heap} {k : Nat} {f : Addr} {name qual : Str} {params : Arguments} {body : List Stmt} {scope : Scope} {dV kV doc pm cdv ct oc : Value} {an od : Option Addr}
    {osl : Array (Option Value)} {N ps : List Str} {sp : Sp} (lk : K.lookup f = some ⟨oc, od, .func (PySem.W.fnOf name qual params body scope dV kV doc pm an cdv ct), osl⟩) (hcd : PySem.W.codeIn K cdv qual = true) (S : FnScope N ps scope)
    (len : ∀ vs H Q E, sp vs H Q E → vs.length = ps.length)
    (hbody : ∀ (A : Around) (outer : List Env) (s : Shared) (H : Hp) (vs : List V) (Q : VK) (E : XK), A.guards = some [] → Room k (A.deeper (envOfC qual scope s.heap.objs.size f cdv)) → sp vs H Q E →
      ∃ t, PSs (cxOf CX P w K mg base N qual scope f cdv A outer s H E) body t ∧ t { nx := fun _ H' => Q .non H', rt := Q } (start N vs) H) :
    FnOkG P w K mg base CX (k + 1) f (PySem.W.fnOf name qual params body scope dV kV doc pm an cdv ct) ps sp := by
  refine ⟨len, fun A outer s H args us vs Q E hg hr e0 hb r hsp => ?_⟩
  have hl := len _ _ _ _ hsp
  have KX : K.In s.heap := e0.mod.kin.keeps fun b o e => (e0.bs b o e).1
  have lim : s.heap.NoLimit := e0.mod.nolimit.keeps fun b o e => (e0.bs b o e).1
  have hkind : ∀ y ∈ ps.zip us, scope.names.lookup y.1 = some .local ∨ (scope.names.lookup y.1 = some .cell ∧ ((cellsFrom (s.heap.objs.size + 1) scope.names []).lookup y.1).isSome = true) := fun ⟨n, v⟩ hy => by
    rcases S.par n (List.of_mem_zip hy).1 with q | q
    · exact .inl q
    · exact .inr ⟨q, PySem.W.cellsFrom_some _ _ _ (.inl q)⟩
  refine codeAny_call_function hr.depth (KX _ _ lk) rfl S.co S.gen rfl (PySem.W.codeRec_of KX hcd) (hb _ _ _ _ ?_)
  refine wpAny_newFunctionEnv_cells S.kind hkind fun env he s1 x => ?_
  subst he
  refine ⟨lim.keeps x.toInCall.keep, codeAny_func ?_⟩
  obtain ⟨t, ht, hq⟩ := hbody A outer s H vs Q E hg (hr.deeper _) hsp
  have I : Inv (cxOf CX P w K mg base N qual scope f cdv A outer s H E) [] (start N vs) H s1 := inv_start S hr.hd e0 hl r x
  refine wpAny_mono (ht.run [] s1 (start N vs) H _ I hq) (fun fl s' hs => ?_) fun e s' hs => hs
  have fin : ∀ {σ' : L2.St} {H' : Hp} {v : V} {u : Value}, Inv (cxOf CX P w K mg base N qual scope f cdv A outer s H E) [] σ' H' s' → RelV v u → Q v H' → CE outer P w H s Q u s' :=
    fun {σ' H' v u} J rv q => ⟨v, H', J.os, J.bare, J.base, J.hok, rv, q⟩
  cases fl with
  | ret u =>
    obtain ⟨v, σ', H', J, rv, q⟩ := hs
    exact fin J rv q
  | next =>
    obtain ⟨σ', H', J, q⟩ := hs
    exact fin (v := V.non) (u := Value.none) J rfl q
  | brk =>
    obtain ⟨_, _, _, q⟩ := hs
    exact False.elim q
  | cont =>
    obtain ⟨_, _, _, q⟩ := hs
    exact False.elim q
theorem Fun.okG {P : Program} {w : World} {K : PySem.W.Frag} {mg : Str → Option Value} {base : Heap} {x qual : Str} {st : Stmt} {f : Addr} {fd : FuncData} {N ps : List Str} {k : Nat} {sp : Sp} (F : Fun K x qual st f fd) (S : FnScope N ps (defScope st)) (len : ∀ vs H Q E, sp vs H Q E → vs.length = ps.length)
    (hbody : ∀ (cdv : Value) (A : Around) (outer : List Env) (s : Shared) (H : Hp) (vs : List V) (Q : VK) (E : XK), A.guards = some [] → Room k (A.deeper (envOfC qual (defScope st) s.heap.objs.size f cdv)) → sp vs H Q E →
      ∃ t, PSs (cxOf CX0 P w K mg base N qual (defScope st) f cdv A outer s H E).nox (defBody st) t ∧ t { nx := fun _ H' => Q .non H', rt := Q } (start N vs) H) : FnOkG P w K mg base CX0 (k + 1) f fd ps sp := by
  obtain ⟨oc, od, kV, doc, pm, an, cdv, ct, osl, rfl, lk, hcd⟩ := F.ex
  refine fn_ofG lk hcd S len fun A outer s H vs Q E hg hr hsp => ?_
  obtain ⟨t, h, q⟩ := hbody cdv A outer s H vs Q E hg hr hsp
  exact ⟨t, h.nox, q⟩
section
variable {X : Cx} {CX : CXT} {k : Nat} {f C : Addr} {fd : FuncData} {ps : List Str} {sp : Sp} {dvs : List V} {ds : List Value} {E : XK} {x m : Str} {p pos apos : Pos} {e o : Expr} {es : List Expr} {ta : TE} {t : TA}
theorem run_fnG {pins : List (Addr × Obj)} {σ : L2.St} {H : Hp} {s : Shared} {Q : VK} {us : List Value} {vs : List V} (F : FnOkG X.prog X.w X.K X.mg X.base CX k f fd ps sp) (hgd : X.A.guards = some []) (hr : Room k X.A) (hb : Binds X.K fd ps ds) (hd : Vals dvs ds) (hx : Passes CX X E)
    (I : Inv X pins σ H s) (r : Vals vs us) (h : sp (vs ++ dvs) H Q E) : wpAny (model X.prog X.w) X.A (call (.ref f) us) (EP X pins σ Q) X.xe s := by
  have r2 : Vals (vs ++ dvs) (us ++ ds) := r.append hd
  have hl : (us ++ ds).length = ps.length := by rw [← r2.length]; exact F.len _ _ _ _ h
  refine wpAny_call (codeAny_mono (F.run X.A X.stack s H ⟨us, []⟩ (us ++ ds) (vs ++ dvs) Q E hgd hr I.env0 (hb s us I.kIn hl) r2 h) fun r s' hq => ?_)
  cases r with
  | error e => exact hx pins σ H s e s' I hq
  | ok fl =>
    cases fl with
    | ret u => exact I.after hq
    | next => exact False.elim hq
    | brk => exact False.elim hq
    | cont => exact False.elim hq
theorem pe_callG (F : FnOkG X.prog X.w X.K X.mg X.base CX k f fd ps sp) (hgd : X.A.guards = some []) (hr : Room k X.A) (hg : Gl X x) (hm : X.mg x = some (.ref f)) (hk : PySem.W.keepIn X.K (.ref f) = true) (hb : Binds X.K fd ps ds) (hd : Vals dvs ds) (hx : Passes CX X E)
    (ha : PA X (e :: es) t) (hdb : (x == ("__debug__" : Str)) = false := by decide) (he : starEach (e :: es) X.env = (false, eval e X.env) :: starEach es X.env := by rfl) (hpl : (backTo pos (starEach es X.env)).any (·.1) = false := by rfl) :
    PE X (.Call (.Name x p) (e :: es) [] pos) (tCall sp dvs E t) := by
  refine ⟨fun pins s σ H Q I h => ?_⟩
  refine wpAny_Call_Name_kw (ld_glob I hg hm ?_ hdb)
  refine PySem.W.callWith_K (h₀ := X.base) I.ok.mod.kin hk (thn (ha.run pos pins s σ H _ I h) fun us s1 ⟨vs, H1, I1, r, q⟩ => ⟨I1.kIn, ?_⟩) he hpl
  exact run_fnG F hgd hr hb hd hx I1 r q
end
/-! ### a text repeated; list(..) within a comprehension -/
section
variable {X : Cx}
def repS (a : Str) (k : Nat) : Str := ⟨(List.replicate k a.cps).foldl (· ++ ·) #[]⟩
theorem fold_app : ∀ (ls : List (Array Nat)) (acc : Array Nat), (ls.foldl (· ++ ·) acc).toList = acc.toList ++ (ls.map Array.toList).flatten
  | [], acc => by simp
  | x :: r, acc => by
    rw [List.foldl_cons, fold_app r, Array.toList_append, List.map_cons, List.flatten_cons, List.append_assoc]
theorem tl_repS (a : Str) (k : Nat) : TL.tl (repS a k) = (List.replicate k (TL.tl a)).flatten := by
  show ((List.replicate k a.cps).foldl (· ++ ·) #[]).toList = _
  rw [fold_app, List.map_replicate]
  rfl
theorem len_repS (a : Str) (k : Nat) : (repS a k).length = k * a.length := by
  rw [TL.len_tl, tl_repS, List.length_flatten, List.map_replicate, List.sum_replicate_nat, ← TL.len_tl]
def rRepS : R2 := fun x y H Q => ∃ (a : Str) (k : Int), x = .str a ∧ y = .int k ∧ 2 ≤ k ∧ k ≤ 100000 ∧ a.length = 1 ∧ Q (.str (repS a k.toNat)) H
theorem op_repS : OpR X (binaryOp .Mult) rRepS := by
  intro pins s σ H x y v u Q I rx ry h
  obtain ⟨a, k, rfl, rfl, k2, k5, la, q⟩ := h
  obtain ⟨t, rfl⟩ := rx
  obtain ⟨tk, rfl⟩ := ry
  have n1 : ¬ k < 1 := by omega
  have n2 : ((k == 1) || (a.length == 0)) = false := by
    rw [la]
    have : (k == 1) = false := by
      rw [beq_eq_false_iff_ne]
      omega
    rw [this]
    rfl
  refine PySem.P.mul_str ?_ (fun _ _ => ?_) (fun _ _ => ?_) ?_
  · have h1 : ¬ k < -(2 ^ 63 : Int) := by omega
    have h2 : ¬ k ≥ 2 ^ 63 := by omega
    rw [decide_eq_false h1, decide_eq_false h2]
    rfl
  · rw [la]
    have : (1 : Int) ≤ (2 ^ 63 - 1) / k := by
      rw [Int.le_ediv_iff_mul_le (by omega)]
      omega
    omega
  · rw [la, Nat.one_mul]
    have : ¬ k.toNat > sizeLine := by
      have : (100000 : Nat) ≤ sizeLine := by decide
      omega
    exact decide_eq_false this
  · rw [if_neg n1, n2, if_neg Bool.false_ne_true]
    have lz : (repS a k.toNat).length ≤ sizeLine := by
      rw [len_repS, la, Nat.mul_one]
      have : (100000 : Nat) ≤ sizeLine := by decide
      omega
    exact ⟨lz, ⟨.str (repS a k.toNat), H, I.tok _, ⟨_, rfl⟩, q⟩⟩
def rListK (K : PySem.W.Frag) : List V → Hp → VK → Prop := fun xs H Q => ∃ p ys, xs = [.ref p] ∧ (SqL K H p ys ∨ SqT K H p ys) ∧ ∀ l, H l = none → Q (.ref l) (upd H l (.lst ys))
theorem listK (K : PySem.W.Frag) (h : X.K = K) : CallR X (.type "list") (rListK K) := h ▸ call_list_of
end
def topAt (i : Nat) : Stmt := PySem.Challenge.pw_sentnext_k55_wrong_words_of_texts.main.body.getD i (.Pass ⟨0, 0, 0, 0⟩)
abbrev s_whole : Stmt := topAt 4
abbrev s_tuple_of : Stmt := topAt 5
abbrev s_rows_of_heads : Stmt := topAt 8
abbrev s_is_house : Stmt := topAt 9
abbrev s_wrong_word : Stmt := topAt 16
abbrev s_house_of : Stmt := topAt 17
abbrev s_row_of : Stmt := topAt 18
abbrev s_wrong_house_word : Stmt := topAt 19
abbrev s_wrong_word_of : Stmt := topAt 20
abbrev s_check_words : Stmt := topAt 21
abbrev s_check_numbers : Stmt := topAt 22
abbrev s_read_table : Stmt := topAt 23
abbrev s_deck : Stmt := topAt 25
abbrev s_draw : Stmt := topAt 26
abbrev s_one : Stmt := topAt 27
abbrev s_power : Stmt := topAt 28
abbrev s_house : Stmt := topAt 29
abbrev s_rows_that_fit : Stmt := topAt 30
abbrev s_table : Stmt := topAt 31
abbrev s_any : Stmt := topAt 32
abbrev s_words : Stmt := topAt 33
abbrev s_text : Stmt := topAt 34
abbrev s_digit : Stmt := topAt 35
abbrev s_house_row : Stmt := topAt 36
abbrev s_table_row : Stmt := topAt 37
abbrev s_rows_read : Stmt := topAt 38
abbrev s_read_text : Stmt := topAt 39
abbrev s_told_of : Stmt := topAt 40
abbrev s_odd_word : Stmt := topAt 41
abbrev s_bent_rows : Stmt := topAt 42
abbrev s_law : Stmt := topAt 43
theorem sc_whole : FnScope ["value", "low", "high"] ["value", "low", "high"] (defScope s_whole) :=
  ⟨rfl, rfl, rfl, by decide +kernel, rfl, by decide +kernel, by decide +kernel⟩
theorem sc_tuple_of : FnScope ["value", "many"] ["value", "many"] (defScope s_tuple_of) :=
  ⟨rfl, rfl, rfl, by decide +kernel, rfl, by decide +kernel, by decide +kernel⟩
theorem sc_rows_of_heads : FnScope ["servers", "lag", "many", "_"] ["servers", "lag"] (defScope s_rows_of_heads) :=
  ⟨rfl, rfl, rfl, by decide +kernel, rfl, by decide +kernel, by decide +kernel⟩
theorem sc_is_house : FnScope ["value", "servers", "rest", "lag"] ["value"] (defScope s_is_house) :=
  ⟨rfl, rfl, rfl, by decide +kernel, rfl, by decide +kernel, by decide +kernel⟩
theorem sc_wrong_word : FnScope ["words", "places", "at", "fitting"] ["words", "places"] (defScope s_wrong_word) :=
  ⟨rfl, rfl, rfl, by decide +kernel, rfl, by decide +kernel, by decide +kernel⟩
theorem sc_house_of : FnScope ["words"] ["words"] (defScope s_house_of) :=
  ⟨rfl, rfl, rfl, by decide +kernel, rfl, by decide +kernel, by decide +kernel⟩
theorem sc_row_of : FnScope ["words"] ["words"] (defScope s_row_of) :=
  ⟨rfl, rfl, rfl, by decide +kernel, rfl, by decide +kernel, by decide +kernel⟩
theorem sc_wrong_house_word : FnScope ["words", "at"] ["words"] (defScope s_wrong_house_word) :=
  ⟨rfl, rfl, rfl, by decide +kernel, rfl, by decide +kernel, by decide +kernel⟩
theorem sc_wrong_word_of : FnScope ["number", "words"] ["number", "words"] (defScope s_wrong_word_of) :=
  ⟨rfl, rfl, rfl, by decide +kernel, rfl, by decide +kernel, by decide +kernel⟩
theorem sc_check_words : FnScope ["lines", "number", "words", "at"] ["lines"] (defScope s_check_words) :=
  ⟨rfl, rfl, rfl, by decide +kernel, rfl, by decide +kernel, by decide +kernel⟩
theorem sc_check_numbers : FnScope ["lines", "rows", "number", "words", "at"] ["lines"] (defScope s_check_numbers) :=
  ⟨rfl, rfl, rfl, by decide +kernel, rfl, by decide +kernel, by decide +kernel⟩
theorem sc_read_table : FnScope ["text", "pieces", "rest", "lines", "piece", "words"] ["text"] (defScope s_read_table) :=
  ⟨rfl, rfl, rfl, by decide +kernel, rfl, by decide +kernel, by decide +kernel⟩
theorem sc_deck : FnScope ["_law_script"] ["_law_script"] (defScope s_deck) :=
  ⟨rfl, rfl, rfl, by decide +kernel, rfl, by decide +kernel, by decide +kernel⟩
theorem sc_draw : FnScope ["_law_deck_here", "_law_many", "_law_found", "_law_cell", "_law_mixed"] ["_law_deck_here", "_law_many"] (defScope s_draw) :=
  ⟨rfl, rfl, rfl, by decide +kernel, rfl, by decide +kernel, by decide +kernel⟩
theorem sc_one : FnScope ["_law_deck_here", "_law_items"] ["_law_deck_here", "_law_items"] (defScope s_one) :=
  ⟨rfl, rfl, rfl, by decide +kernel, rfl, by decide +kernel, by decide +kernel⟩
theorem sc_power : FnScope ["_law_servers", "_law_lag", "_law_found", "_law_k"] ["_law_servers", "_law_lag"] (defScope s_power) :=
  ⟨rfl, rfl, rfl, by decide +kernel, rfl, by decide +kernel, by decide +kernel⟩
theorem sc_house : FnScope ["_law_deck_here", "_law_room", "_law_servers", "_law_fits", "_law_lag"] ["_law_deck_here", "_law_room"] (defScope s_house) :=
  ⟨rfl, rfl, rfl, by decide +kernel, rfl, by decide +kernel, by decide +kernel⟩
theorem sc_rows_that_fit : FnScope ["_law_house_here"] ["_law_house_here"] (defScope s_rows_that_fit) :=
  ⟨rfl, rfl, rfl, by decide +kernel, rfl, by decide +kernel, by decide +kernel⟩
theorem sc_table : FnScope ["_law_deck_here", "_law_room", "_law_many", "_law_found", "_law_k", "_law_act"] ["_law_deck_here", "_law_room"] (defScope s_table) :=
  ⟨rfl, rfl, rfl, by decide +kernel, rfl, by decide +kernel, by decide +kernel⟩
theorem sc_any : FnScope ["_law_deck_here", "_law_house_here"] ["_law_deck_here"] (defScope s_any) :=
  ⟨rfl, rfl, rfl, by decide +kernel, rfl, by decide +kernel, by decide +kernel⟩
theorem sc_words : FnScope ["_law_pair", "_law_one_here", "_law_row"] ["_law_pair"] (defScope s_words) :=
  ⟨rfl, rfl, rfl, by decide +kernel, rfl, by decide +kernel, by decide +kernel⟩
theorem sc_text : FnScope ["_law_rows", "_law_row"] ["_law_rows"] (defScope s_text) :=
  ⟨rfl, rfl, rfl, by decide +kernel, rfl, by decide +kernel, by decide +kernel⟩
theorem sc_digit : FnScope ["_law_words_here", "_law_at", "_law_low", "_law_high", "_law_word"] ["_law_words_here", "_law_at", "_law_low", "_law_high"] (defScope s_digit) :=
  ⟨rfl, rfl, rfl, by decide +kernel, rfl, by decide +kernel, by decide +kernel⟩
theorem sc_house_row : FnScope ["_law_words_here", "_law_found", "_law_at", "_law_low", "_law_high", "_law_number"] ["_law_words_here"] (defScope s_house_row) :=
  ⟨rfl, rfl, rfl, by decide +kernel, rfl, by decide +kernel, by decide +kernel⟩
theorem sc_table_row : FnScope ["_law_words_here", "_law_at"] ["_law_words_here"] (defScope s_table_row) :=
  ⟨rfl, rfl, rfl, by decide +kernel, rfl, by decide +kernel, by decide +kernel⟩
theorem sc_rows_read : FnScope ["_law_rows", "_law_house_here", "_law_found", "_law_line", "_law_row"] ["_law_rows"] (defScope s_rows_read) :=
  ⟨rfl, rfl, rfl, by decide +kernel, rfl, by decide +kernel, by decide +kernel⟩
theorem sc_read_text : FnScope ["_law_text_here", "_law_rows", "_law_is_ended", "_law_found", "_law_line", "_law_row", "_law_at"] ["_law_text_here"] (defScope s_read_text) :=
  ⟨rfl, rfl, rfl, by decide +kernel, rfl, by decide +kernel, by decide +kernel⟩
theorem sc_told_of : FnScope ["_law_text_here", "e"] ["_law_text_here"] (defScope s_told_of) :=
  ⟨rfl, rfl, rfl, by decide +kernel, rfl, by decide +kernel, by decide +kernel⟩
theorem sc_odd_word : FnScope ["_law_deck_here", "_law_word", "_law_some"] ["_law_deck_here", "_law_word"] (defScope s_odd_word) :=
  ⟨rfl, rfl, rfl, by decide +kernel, rfl, by decide +kernel, by decide +kernel⟩
theorem sc_bent_rows : FnScope ["_law_deck_here", "_law_rows", "_law_found", "_law_row", "_law_at", "_law_spot", "_law_sort", "_law_odd", "_law_k"] ["_law_deck_here", "_law_rows"] (defScope s_bent_rows) :=
  ⟨rfl, rfl, rfl, by decide +kernel, rfl, by decide +kernel, by decide +kernel⟩
theorem sc_law : FnScope ["_law_script", "_law_deck_here", "_law_turn", "_law_rows", "_law_k", "_law_bent", "_law_more", "_law_text_here"] ["_law_script"] (defScope s_law) :=
  ⟨rfl, rfl, rfl, by decide +kernel, rfl, by decide +kernel, by decide +kernel⟩
def clsBody : Stmt → List Stmt
  | .ClassDef _ _ _ body _ _ _ _ _ _ _ => body
  | _ => []
abbrev s_BadText_init : Stmt := (clsBody (topAt 2)).getD 0 (.Pass ⟨0, 0, 0, 0⟩)
theorem sc_BadText_init : FnScope ["self", "line", "word"] ["self", "line", "word"] (defScope s_BadText_init) :=
  ⟨rfl, rfl, rfl, by decide +kernel, rfl, by decide +kernel, by decide +kernel⟩
structure Txt (K : PySem.W.Frag) (mg : Str → Option Value) where
  a_whole : Addr
  d_whole : FuncData
  F_whole : Fun K "whole" "whole" s_whole a_whole d_whole
  g_whole : mg "whole" = some (.ref a_whole)
  b_whole : Binds K d_whole ["value", "low", "high"] []
  a_tuple_of : Addr
  d_tuple_of : FuncData
  F_tuple_of : Fun K "tuple_of" "tuple_of" s_tuple_of a_tuple_of d_tuple_of
  g_tuple_of : mg "tuple_of" = some (.ref a_tuple_of)
  b_tuple_of : Binds K d_tuple_of ["value", "many"] []
  a_rows_of_heads : Addr
  d_rows_of_heads : FuncData
  F_rows_of_heads : Fun K "rows_of_heads" "rows_of_heads" s_rows_of_heads a_rows_of_heads d_rows_of_heads
  g_rows_of_heads : mg "rows_of_heads" = some (.ref a_rows_of_heads)
  b_rows_of_heads : Binds K d_rows_of_heads ["servers", "lag"] []
  a_is_house : Addr
  d_is_house : FuncData
  F_is_house : Fun K "is_house" "is_house" s_is_house a_is_house d_is_house
  g_is_house : mg "is_house" = some (.ref a_is_house)
  b_is_house : Binds K d_is_house ["value"] []
  a_wrong_word : Addr
  d_wrong_word : FuncData
  F_wrong_word : Fun K "wrong_word" "wrong_word" s_wrong_word a_wrong_word d_wrong_word
  g_wrong_word : mg "wrong_word" = some (.ref a_wrong_word)
  b_wrong_word : Binds K d_wrong_word ["words", "places"] []
  a_house_of : Addr
  d_house_of : FuncData
  F_house_of : Fun K "house_of" "house_of" s_house_of a_house_of d_house_of
  g_house_of : mg "house_of" = some (.ref a_house_of)
  b_house_of : Binds K d_house_of ["words"] []
  c_house_of : Addr
  p_house_of : Addr
  h_house_of : d_house_of.code = .ref c_house_of
  a_row_of : Addr
  d_row_of : FuncData
  F_row_of : Fun K "row_of" "row_of" s_row_of a_row_of d_row_of
  g_row_of : mg "row_of" = some (.ref a_row_of)
  b_row_of : Binds K d_row_of ["words"] []
  a_wrong_house_word : Addr
  d_wrong_house_word : FuncData
  F_wrong_house_word : Fun K "wrong_house_word" "wrong_house_word" s_wrong_house_word a_wrong_house_word d_wrong_house_word
  g_wrong_house_word : mg "wrong_house_word" = some (.ref a_wrong_house_word)
  b_wrong_house_word : Binds K d_wrong_house_word ["words"] []
  a_wrong_word_of : Addr
  d_wrong_word_of : FuncData
  F_wrong_word_of : Fun K "wrong_word_of" "wrong_word_of" s_wrong_word_of a_wrong_word_of d_wrong_word_of
  g_wrong_word_of : mg "wrong_word_of" = some (.ref a_wrong_word_of)
  b_wrong_word_of : Binds K d_wrong_word_of ["number", "words"] []
  a_check_words : Addr
  d_check_words : FuncData
  F_check_words : Fun K "check_words" "check_words" s_check_words a_check_words d_check_words
  g_check_words : mg "check_words" = some (.ref a_check_words)
  b_check_words : Binds K d_check_words ["lines"] []
  a_check_numbers : Addr
  d_check_numbers : FuncData
  F_check_numbers : Fun K "check_numbers" "check_numbers" s_check_numbers a_check_numbers d_check_numbers
  g_check_numbers : mg "check_numbers" = some (.ref a_check_numbers)
  b_check_numbers : Binds K d_check_numbers ["lines"] []
  a_read_table : Addr
  d_read_table : FuncData
  F_read_table : Fun K "read_table" "read_table" s_read_table a_read_table d_read_table
  g_read_table : mg "read_table" = some (.ref a_read_table)
  b_read_table : Binds K d_read_table ["text"] []
  a_deck : Addr
  d_deck : FuncData
  F_deck : Fun K "_law_deck" "_law_deck" s_deck a_deck d_deck
  g_deck : mg "_law_deck" = some (.ref a_deck)
  b_deck : Binds K d_deck ["_law_script"] []
  a_draw : Addr
  d_draw : FuncData
  F_draw : Fun K "_law_draw" "_law_draw" s_draw a_draw d_draw
  g_draw : mg "_law_draw" = some (.ref a_draw)
  b_draw : Binds K d_draw ["_law_deck_here", "_law_many"] []
  a_one : Addr
  d_one : FuncData
  F_one : Fun K "_law_one" "_law_one" s_one a_one d_one
  g_one : mg "_law_one" = some (.ref a_one)
  b_one : Binds K d_one ["_law_deck_here", "_law_items"] []
  a_power : Addr
  d_power : FuncData
  F_power : Fun K "_law_power" "_law_power" s_power a_power d_power
  g_power : mg "_law_power" = some (.ref a_power)
  b_power : Binds K d_power ["_law_servers", "_law_lag"] []
  a_house : Addr
  d_house : FuncData
  F_house : Fun K "_law_house" "_law_house" s_house a_house d_house
  g_house : mg "_law_house" = some (.ref a_house)
  b_house : Binds K d_house ["_law_deck_here", "_law_room"] []
  a_rows_that_fit : Addr
  d_rows_that_fit : FuncData
  F_rows_that_fit : Fun K "_law_rows_that_fit" "_law_rows_that_fit" s_rows_that_fit a_rows_that_fit d_rows_that_fit
  g_rows_that_fit : mg "_law_rows_that_fit" = some (.ref a_rows_that_fit)
  b_rows_that_fit : Binds K d_rows_that_fit ["_law_house_here"] []
  a_table : Addr
  d_table : FuncData
  F_table : Fun K "_law_table" "_law_table" s_table a_table d_table
  g_table : mg "_law_table" = some (.ref a_table)
  b_table : Binds K d_table ["_law_deck_here", "_law_room"] []
  a_any : Addr
  d_any : FuncData
  F_any : Fun K "_law_any" "_law_any" s_any a_any d_any
  g_any : mg "_law_any" = some (.ref a_any)
  b_any : Binds K d_any ["_law_deck_here"] []
  a_words : Addr
  d_words : FuncData
  F_words : Fun K "_law_words" "_law_words" s_words a_words d_words
  g_words : mg "_law_words" = some (.ref a_words)
  b_words : Binds K d_words ["_law_pair"] []
  a_text : Addr
  d_text : FuncData
  F_text : Fun K "_law_text" "_law_text" s_text a_text d_text
  g_text : mg "_law_text" = some (.ref a_text)
  b_text : Binds K d_text ["_law_rows"] []
  a_digit : Addr
  d_digit : FuncData
  F_digit : Fun K "_law_digit" "_law_digit" s_digit a_digit d_digit
  g_digit : mg "_law_digit" = some (.ref a_digit)
  b_digit : Binds K d_digit ["_law_words_here", "_law_at", "_law_low", "_law_high"] []
  a_house_row : Addr
  d_house_row : FuncData
  F_house_row : Fun K "_law_house_row" "_law_house_row" s_house_row a_house_row d_house_row
  g_house_row : mg "_law_house_row" = some (.ref a_house_row)
  b_house_row : Binds K d_house_row ["_law_words_here"] []
  a_table_row : Addr
  d_table_row : FuncData
  F_table_row : Fun K "_law_table_row" "_law_table_row" s_table_row a_table_row d_table_row
  g_table_row : mg "_law_table_row" = some (.ref a_table_row)
  b_table_row : Binds K d_table_row ["_law_words_here"] []
  a_rows_read : Addr
  d_rows_read : FuncData
  F_rows_read : Fun K "_law_rows_read" "_law_rows_read" s_rows_read a_rows_read d_rows_read
  g_rows_read : mg "_law_rows_read" = some (.ref a_rows_read)
  b_rows_read : Binds K d_rows_read ["_law_rows"] []
  a_read_text : Addr
  d_read_text : FuncData
  F_read_text : Fun K "_law_read_text" "_law_read_text" s_read_text a_read_text d_read_text
  g_read_text : mg "_law_read_text" = some (.ref a_read_text)
  b_read_text : Binds K d_read_text ["_law_text_here"] []
  a_told_of : Addr
  d_told_of : FuncData
  F_told_of : Fun K "_law_told_of" "_law_told_of" s_told_of a_told_of d_told_of
  g_told_of : mg "_law_told_of" = some (.ref a_told_of)
  b_told_of : Binds K d_told_of ["_law_text_here"] []
  a_odd_word : Addr
  d_odd_word : FuncData
  F_odd_word : Fun K "_law_odd_word" "_law_odd_word" s_odd_word a_odd_word d_odd_word
  g_odd_word : mg "_law_odd_word" = some (.ref a_odd_word)
  b_odd_word : Binds K d_odd_word ["_law_deck_here", "_law_word"] []
  a_bent_rows : Addr
  d_bent_rows : FuncData
  F_bent_rows : Fun K "_law_bent_rows" "_law_bent_rows" s_bent_rows a_bent_rows d_bent_rows
  g_bent_rows : mg "_law_bent_rows" = some (.ref a_bent_rows)
  b_bent_rows : Binds K d_bent_rows ["_law_deck_here", "_law_rows"] []
  t_MOST_HEADS : Tok
  g_MOST_HEADS : mg "MOST_HEADS" = some (.int (81) t_MOST_HEADS)
  t_MOST_ROWS : Tok
  g_MOST_ROWS : mg "MOST_ROWS" = some (.int (6) t_MOST_ROWS)
  a_HOUSE_WORDS_0 : Addr
  q_HOUSE_WORDS_0 : SqT K (fun _ => none) a_HOUSE_WORDS_0 [.str "house"]
  a_HOUSE_WORDS_1 : Addr
  q_HOUSE_WORDS_1 : SqT K (fun _ => none) a_HOUSE_WORDS_1 [.str "2", .str "3", .str "4"]
  a_HOUSE_WORDS_2 : Addr
  q_HOUSE_WORDS_2 : SqT K (fun _ => none) a_HOUSE_WORDS_2 [.str "1", .str "2", .str "3", .str "4", .str "5", .str "6"]
  a_HOUSE_WORDS_3 : Addr
  q_HOUSE_WORDS_3 : SqT K (fun _ => none) a_HOUSE_WORDS_3 [.str "0", .str "1", .str "2", .str "3"]
  a_HOUSE_WORDS : Addr
  g_HOUSE_WORDS : mg "HOUSE_WORDS" = some (.ref a_HOUSE_WORDS)
  q_HOUSE_WORDS : SqT K (fun _ => none) a_HOUSE_WORDS [.ref a_HOUSE_WORDS_0, .ref a_HOUSE_WORDS_1, .ref a_HOUSE_WORDS_2, .ref a_HOUSE_WORDS_3]
  a_ROW_WORDS_0 : Addr
  q_ROW_WORDS_0 : SqT K (fun _ => none) a_ROW_WORDS_0 [.str "named", .str "next", .str "wait"]
  a_ROW_WORDS_1 : Addr
  q_ROW_WORDS_1 : SqT K (fun _ => none) a_ROW_WORDS_1 [.str "0", .str "1", .str "2", .str "3", .str "4", .str "5"]
  a_ROW_WORDS_2 : Addr
  q_ROW_WORDS_2 : SqT K (fun _ => none) a_ROW_WORDS_2 [.str "0", .str "1", .str "2", .str "3", .str "4", .str "5"]
  a_ROW_WORDS : Addr
  g_ROW_WORDS : mg "ROW_WORDS" = some (.ref a_ROW_WORDS)
  q_ROW_WORDS : SqT K (fun _ => none) a_ROW_WORDS [.ref a_ROW_WORDS_0, .ref a_ROW_WORDS_1, .ref a_ROW_WORDS_2]
  t_LAG_PLACE : Tok
  g_LAG_PLACE : mg "LAG_PLACE" = some (.int (3) t_LAG_PLACE)
  a_ROW_PLACES : Addr
  g_ROW_PLACES : mg "ROW_PLACES" = some (.ref a_ROW_PLACES)
  q_ROW_PLACES : SqT K (fun _ => none) a_ROW_PLACES [.int (1), .int (2)]
  m_ValueError : mg "ValueError" = none
  m_abs : mg "abs" = none
  m_bool : mg "bool" = none
  m_e : mg "e" = none
  m_enumerate : mg "enumerate" = none
  m_int : mg "int" = none
  m_isinstance : mg "isinstance" = none
  m_len : mg "len" = none
  m_list : mg "list" = none
  m_max : mg "max" = none
  m_min : mg "min" = none
  m_range : mg "range" = none
  m_repr : mg "repr" = none
  m_str : mg "str" = none
  m_tuple : mg "tuple" = none
  C_BadText : Addr
  B_BadText : Addr
  a_BadText_init : Addr
  d_BadText_init : FuncData
  F_BadText_init : Fun K "__init__" "BadText.__init__" s_BadText_init a_BadText_init d_BadText_init
  b_BadText_init : Binds K d_BadText_init ["self", "line", "word"] []
  E_BadText : ErrTxt K mg "BadText" "AskError" "line" "word" C_BadText B_BadText a_BadText_init
def Txt.tabs {K : PySem.W.Frag} {mg : Str → Option Value} (T : Txt K mg) : List (Addr × Addr) := [(T.c_house_of, T.p_house_of)]
def houseT (s r g : Int) : PyData := .tuple [.int s, .int r, .int g]

/-! ### the deck of a script: a list of four, its cells a list of their own -/
/-- the deck at p, n numbers have been drawn -/
def Deck (K : PySem.W.Frag) (H : Hp) (p : Addr) (n : Nat) : Prop :=
  ∃ (l : Addr) (ns : List Int) (c r : Int), H p = some (.lst [.ref l, .int c, .int r, .int (n : Int)]) ∧ l ≠ p ∧ SqL K H l (ns.map V.int) ∧ ns.length ≤ 63 ∧ 0 ≤ c ∧ 0 ≤ r
theorem Deck.ne_new {K : PySem.W.Frag} {H : Hp} {p q : Addr} {n : Nat} (D : Deck K H p n) (h : H q = none) : q ≠ p := by
  obtain ⟨l, ns, c, r, hp, _⟩ := D
  exact (ne_of_none hp h).symm
theorem Deck.ne_tup {K : PySem.W.Frag} {H : Hp} {p t : Addr} {n : Nat} {xs : List V} (D : Deck K H p n) (h : H t = some (.tup xs)) : t ≠ p := by
  obtain ⟨l, ns, c, r, hp, _⟩ := D
  exact ne_of h hp (by intro z; cases z)
theorem Deck.put {K : PySem.W.Frag} {H : Hp} {p q : Addr} {n : Nat} {o : HO} (D : Deck K H p n) (h : H q = none) : Deck K (upd H q o) p n := by
  have nq := D.ne_new h
  obtain ⟨l, ns, c, r, hp, lp, hl, z⟩ := D
  exact ⟨l, ns, c, r, by rw [upd_ne nq.symm]; exact hp, lp, (Keep.new h).seq lp hl, z⟩
/-- an object that was new at a time when the deck stood is changed later -/
theorem Deck.write {K : PySem.W.Frag} {G H : Hp} {p q : Addr} {m n : Nat} {o : HO} (A : Deck K G p m) (h : G q = none) (k : Keep p G H) (D : Deck K H p n) : Deck K (upd H q o) p n := by
  have nq := A.ne_new h
  obtain ⟨l, ns, c, r, gp, lp, gl, g63, _⟩ := A
  obtain ⟨l', ns', c', r', hp, lp', hl, h63, hc, hr⟩ := D
  obtain ⟨z, hz⟩ := k.h l _ gp
  have e : l' = l := by
    rw [hp] at hz
    injection hz with hz
    injection hz with hz
    injection hz with hz _
    injection hz
  subst e
  have hp' : upd H q o p = some (.lst [.ref l', .int c', .int r', .int (n : Int)]) := by
    rw [upd_ne nq.symm]
    exact hp
  rcases gl with gl | gl
  · have lq : l' ≠ q := by
      rcases gl with gl | ⟨_, gl⟩
      · exact ne_of_none gl h
      · exact ne_of_none gl h
    refine ⟨l', ns', c', r', hp', lp, ?_, h63, hc, hr⟩
    rcases hl with (hl | ⟨u, hl⟩) | hl
    · exact Or.inl (Or.inl (by rw [upd_ne lq]; exact hl))
    · exact Or.inl (Or.inr ⟨u, by rw [upd_ne lq]; exact hl⟩)
    · exact Or.inr hl
  · exact ⟨l', ns, c', r', hp', lp, Or.inr gl, g63, hc, hr⟩
theorem ints_dp {K : PySem.W.Frag} {H : Hp} : ∀ ns : List Int, DpAll K H (ns.map V.int) (ns.map PyData.int)
  | [] => .nil
  | n :: ns => .cons (.int n) (ints_dp ns)
theorem ints_lay : ∀ ns : List Int, PyData.canLayAll0 (ns.map PyData.int) = true
  | [] => by simp only [List.map_nil, PyData.canLayAll0]
  | n :: ns => by simp only [List.map_cons, PyData.canLayAll0, PyData.canLay0, ints_lay ns, Bool.and_self]
theorem ints_deep : ∀ ns : List Int, PyData.depthAll (ns.map PyData.int) = 0
  | [] => by simp only [List.map_nil, PyData.depthAll]
  | n :: ns => by simp only [List.map_cons, PyData.depthAll, PyData.depth, ints_deep ns, Nat.max_self]
theorem ints_shaped (ns : List Int) : SeqAt.shaped (.list (ns.map PyData.int)) = true := by
  unfold SeqAt.shaped
  simp only [PyData.canLay0, PyData.depth, ints_lay, ints_deep, Bool.true_and, decide_eq_true_eq]
  decide
theorem ints_nil (ns : List Int) : PyData.eqv (.list (ns.map PyData.int)) (.list []) = ns.isEmpty := by
  cases ns <;> simp [PyData.eqv, PyData.eqvAll]
theorem int_at (ns : List Int) (i : Int) (h0 : 0 ≤ i) (h1 : i < (ns.length : Int)) : ∃ z, atI (ns.map V.int) i = some (.int z) := by
  obtain ⟨j, rfl⟩ : ∃ j : Nat, i = (j : Int) := ⟨i.toNat, (Int.toNat_of_nonneg h0).symm⟩
  have hj : j < ns.length := by omega
  refine ⟨ns[j], atI_nat ?_⟩
  rw [List.getElem?_map, List.getElem?_eq_getElem hj]
  rfl
theorem fmod_lo {a m : Int} (h : 0 < m) : 0 ≤ a.fmod m := Int.fmod_nonneg_of_pos _ h
theorem fmod_hi {a m : Int} (h : 0 < m) : a.fmod m < m := Int.fmod_lt_of_pos _ h
theorem fdiv_lo {a m : Int} (h : 0 ≤ a) (hm : 0 < m) : 0 ≤ a.fdiv m := by
  rw [Int.fdiv_eq_ediv_of_nonneg _ (Int.le_of_lt hm)]
  exact Int.ediv_nonneg h (Int.le_of_lt hm)
theorem rIx_of {K : PySem.W.Frag} {H : Hp} {p : Addr} {xs : List V} {i : Int} {v : V} {Q : VK} (h : SqA K H p xs) (he : atI xs i = some v) (q : Q v H) : rIx K (.ref p) (.int i) H Q := by
  rcases h with h | h
  · exact Or.inl ⟨p, xs, i, v, rfl, rfl, h, he, q⟩
  · exact Or.inr (Or.inl ⟨p, xs, i, v, rfl, rfl, h, he, q⟩)
def sp_draw (K : PySem.W.Frag) : Sp := fun vs H Q _ => ∃ (p : Addr) (m : Int) (n : Nat), vs = [.ref p, .int m] ∧ 0 < m ∧ m < 100000 ∧ Deck K H p n ∧ n < 1000000 ∧
  ∀ (r : Int) (J : Hp), 0 ≤ r → r < m → Deck K J p (n + 1) → Keep p H J → Q (.int r) J
def sp_one (K : PySem.W.Frag) : Sp := fun vs H Q _ => ∃ (p a : Addr) (xs : List V) (n : Nat), vs = [.ref p, .ref a] ∧ SqL K H a xs ∧ a ≠ p ∧ 0 < xs.length ∧ xs.length < 100000 ∧ Deck K H p n ∧ n < 1000000 ∧
  ∀ (i : Nat) (x : V) (J : Hp), xs[i]? = some x → Deck K J p (n + 1) → Keep p H J → Q x J
section
variable {P : Program} {w : World} {K : PySem.W.Frag} {mg : Str → Option Value} {base : Heap}
theorem ok_draw (T : Txt K mg) : FnOk P w K mg base CX0 1 T.a_draw T.d_draw ["_law_deck_here", "_law_many"] (sp_draw K) := by
  refine T.F_draw.ok sc_draw (fun vs H Q E h => ?_) (fun cdv A outer s H vs Q E hr h => ?_)
  · obtain ⟨p, m, n, rfl, _⟩ := h
    rfl
  · obtain ⟨p, m, n, rfl, m0, m1, ⟨l, ns, c, r, hp, lp, hl, h63, c0, r0⟩, hn, k⟩ := h
    have mne : m ≠ 0 := by omega
    have md : CDivN r m := ⟨mne, by omega⟩
    refine ⟨_, (pss_cons (ps_asg (pe_op op_add (pe_ix ix_list (pv 0) pe_int (fun _ _ => rfl)) pe_int) (pg_sub (pv 0) pe_int set_list))
      (pss_cons (ps_if (pt_cmpR op_gt (pe_ix ix_list (pv 0) pe_int (fun _ _ => rfl)) pe_int (nomark _))
        (pss_cons (ps_set (i := 2) sc_draw.nd rfl (Or.inl rfl) (pe_op op_modN (pe_callTy (T := "int") call_int1 (by rfl) T.m_int (by decide +kernel) (pa_cons (pe_ix ix_list (pv 0) pe_int (fun _ _ => rfl)) pa_nil)) (pv 1)))
      (pss_cons (ps_asg (pe_op op_fdivN (pe_ix ix_list (pv 0) pe_int (fun _ _ => rfl)) (pv 1)) (pg_sub (pv 0) pe_int set_list))
      (pss_one (ps_ret (pv 2)))))
        pss_nil)
      (pss_cons (ps_set (i := 3) sc_draw.nd rfl (Or.inl rfl) pe_int)
      (Evl.pss_cut (ps_if (pt_cmpR (op_neD hr.units) (pe_ix ix_list (pv 0) pe_int (fun _ _ => rfl)) (pe_lst pa_nil) (nomark _))
        (pss_one (ps_set (i := 3) sc_draw.nd rfl (Or.inl rfl) (pe_ix ix_list (pe_ix ix_list (pv 0) pe_int (fun _ _ => rfl)) (pe_op op_modN (pe_callTy (T := "int") call_int1 (by rfl) T.m_int (by decide +kernel) (pa_cons (pe_ix ix_list (pv 0) pe_int (fun _ _ => rfl)) pa_nil)) (pe_callB (id := "len") call_len_seq (by rfl) T.m_len (by decide +kernel) (pa_cons (pe_ix ix_list (pv 0) pe_int (fun _ _ => rfl)) pa_nil))) (fun _ _ => rfl))))
        pss_nil)
      (pss_cons (ps_asg (pe_op op_add (pe_ix ix_list (pv 0) pe_int (fun _ _ => rfl)) pe_int) (pg_sub (pv 0) pe_int set_list))
      (Evl.pss_cut (ps_if (PW.pt (pw_and (pt_cmpR op_ge (pe_callB (id := "abs") call_abs (by rfl) T.m_abs (by decide +kernel) (pa_cons (pv 3) pa_nil)) (pe_op op_pow pe_int pe_int) (nomark _)) (pw_and1 (pt_cmpR op_le (pe_ix ix_list (pv 0) pe_int (fun _ _ => rfl)) (pe_callB (id := "len") call_len_seq (by rfl) T.m_len (by decide +kernel) (pa_cons (pe_ix ix_list (pv 0) pe_int (fun _ _ => rfl)) pa_nil)) (nomark _)))))
        (pss_cons (ps_asg (pe_op op_fdivN (pe_callB (id := "abs") call_abs (by rfl) T.m_abs (by decide +kernel) (pa_cons (pv 3) pa_nil)) (pv 1)) (pg_sub (pv 0) pe_int set_list))
      (pss_one (ps_ret (pe_op op_modN (pe_callTy (T := "int") call_int1 (by rfl) T.m_int (by decide +kernel) (pa_cons (pe_callB (id := "abs") call_abs (by rfl) T.m_abs (by decide +kernel) (pa_cons (pv 3) pa_nil)) pa_nil)) (pv 1)))))
        pss_nil)
      (pss_cons (ps_set (i := 4) sc_draw.nd rfl (Or.inl rfl) (pe_op op_modN (pe_op op_pow (pe_callTy (T := "int") call_int1 (by rfl) T.m_int (by decide +kernel) (pa_cons (pe_op op_add (pe_op op_modN (pe_callTy (T := "int") call_int1 (by rfl) T.m_int (by decide +kernel) (pa_cons (pv 3) pa_nil)) pe_int) (pe_op op_mul pe_int (pe_ix ix_list (pv 0) pe_int (fun _ _ => rfl)))) pa_nil)) pe_int) pe_int))
      (pss_cons (ps_set (i := 4) sc_draw.nd rfl (Or.inl rfl) (pe_op op_modN (pe_op op_pow (pe_callTy (T := "int") call_int1 (by rfl) T.m_int (by decide +kernel) (pa_cons (pe_op op_add (pe_op op_mul (pv 4) (pe_op op_add (pe_op op_mul pe_int (pe_ix ix_list (pv 0) pe_int (fun _ _ => rfl))) pe_int)) pe_int) pa_nil)) pe_int) pe_int))
      (pss_one (ps_ret (pe_op op_modN (pe_op op_fdivN (pv 4) pe_int) (pv 1)))))))))))), ?_⟩
    -- the number of draws
    refine ⟨_, rfl, p, _, 3, _, rfl, rfl, SqL.of hp, rfl, _, _, rfl, rfl, _, rfl, p, _, 3, 3, rfl, rfl, hp, rfl, ?_⟩
    have en : ((n : Int) + 1) = ((n + 1 : Nat) : Int) := by omega
    have h1 : upd H p (.lst [.ref l, .int c, .int r, .int ((n : Int) + 1)]) p = some (.lst [.ref l, .int c, .int r, .int ((n : Int) + 1)]) := upd_same
    have K1 : Keep p H (upd H p (.lst [.ref l, .int c, .int r, .int ((n : Int) + 1)])) := Keep.put hp
    have l1 := K1.seq lp hl
    refine ⟨_, rfl, p, _, 2, _, rfl, rfl, SqL.of h1, rfl, _, _, rfl, rfl, _, rfl, ite2 (fun hpos => ?_) (fun _ => ?_)⟩
    · refine ⟨_, rfl, p, _, 2, _, rfl, rfl, SqL.of h1, rfl, .inl ⟨_, rfl, _, rfl, _, _, rfl, rfl, mne, ?_⟩⟩
      refine ⟨_, rfl, p, _, 2, _, rfl, rfl, SqL.of h1, rfl, _, rfl, _, _, rfl, rfl, md, _, rfl, p, _, 2, 2, rfl, rfl, h1, rfl, ?_⟩
      refine ⟨_, rfl, k _ _ (fmod_lo m0) (fmod_hi m0) ?_ (K1.trans (Keep.put h1))⟩
      exact ⟨l, ns, c, r.fdiv m, by rw [upd_same, ← en]; rfl, lp, (K1.trans (Keep.put h1)).seq lp hl, h63, c0, fdiv_lo r0 m0⟩
    · -- the cell: 67, or one of the script's
      let H1 := upd H p (.lst [.ref l, .int c, .int r, .int ((n : Int) + 1)])
      refine ⟨fun σ' H2 => ∃ z : Int, σ' = [some (.ref p), some (.int m), none, some (.int z), none] ∧ Same H1 H2, ?_, ?_⟩
      · refine ⟨_, rfl, p, _, 0, _, rfl, rfl, SqL.of h1, rfl, Nat.zero_le _, fun q hq => ?_⟩
        have s2 : Same H1 (upd H1 q (.lst [])) := fun b o e => by
          rw [upd_ne (ne_of_none e hq)]
          exact e
        have h2 := s2 _ _ h1
        refine ⟨.list (ns.map PyData.int), .list [], .lst (s2.seq l1) (ints_dp ns), .lst (SqL.of upd_same) .nil, ints_shaped ns, by decide, _, rfl, ?_⟩
        rw [ints_nil]
        cases ns with
        | nil => exact ⟨67, rfl, s2⟩
        | cons y ys =>
          refine iteT ?_
          have len0 : (((y :: ys).length : Nat) : Int) ≠ 0 := by rw [List.length_cons]; omega
          have lenp : (0 : Int) < (((y :: ys).length : Nat) : Int) := by rw [List.length_cons]; omega
          have e2 : (((y :: ys).map V.int).length : Int) = (((y :: ys).length : Nat) : Int) := by rw [List.length_map]
          obtain ⟨z, hz⟩ := int_at (y :: ys) (c.fmod (((y :: ys).length : Nat) : Int)) (fmod_lo lenp) (fmod_hi lenp)
          refine ⟨_, rfl, p, _, 0, _, rfl, rfl, SqL.of h2, rfl, _, rfl, p, _, 1, _, rfl, rfl, SqL.of h2, rfl, .inl ⟨_, rfl, _, rfl, p, _, 0, _, rfl, rfl, SqL.of h2, rfl, l, _, rfl, .inl (s2.seq l1), c, _, rfl, rfl, by rw [e2]; exact len0, ?_⟩⟩
          rw [e2]
          exact ⟨l, _, _, _, rfl, rfl, s2.seq l1, hz, z, rfl, s2⟩
      · rintro σ' H2 ⟨z, rfl, s2⟩
        have h2 := s2 _ _ h1
        have K2 : Keep p H H2 := K1.trans (Keep.of_same s2)
        -- one cell more has been read
        refine ⟨_, rfl, p, _, 1, _, rfl, rfl, SqL.of h2, rfl, _, _, rfl, rfl, _, rfl, p, _, 1, 1, rfl, rfl, h2, rfl, ?_⟩
        have K3 : Keep p H (upd H2 p (.lst [.ref l, .int (c + 1), .int r, .int ((n : Int) + 1)])) := K2.trans (Keep.put h2)
        have h3 : upd H2 p (.lst [.ref l, .int (c + 1), .int r, .int ((n : Int) + 1)]) p = some (.lst [.ref l, .int (c + 1), .int r, .int ((n : Int) + 1)]) := upd_same
        have l3 := K3.seq lp hl
        have D3 : Deck K (upd H2 p (.lst [.ref l, .int (c + 1), .int r, .int ((n : Int) + 1)])) p (n + 1) := ⟨l, ns, c + 1, r, by rw [h3, en], lp, l3, h63, by omega, r0⟩
        refine ⟨fun σ' H' => σ' = [some (.ref p), some (.int m), none, some (.int z), none] ∧ H' = upd H2 p (.lst [.ref l, .int (c + 1), .int r, .int ((n : Int) + 1)]), ?_, ?_⟩
        · refine ⟨_, rfl, _, rfl, 10, 18, rfl, rfl, ⟨by decide, by decide, by decide⟩, _, _, rfl, rfl, _, rfl, ?_⟩
          refine ite2 (fun _ => ?_) (fun _ => iteF ⟨rfl, rfl⟩)
          refine ⟨_, rfl, p, _, 1, _, rfl, rfl, SqL.of h3, rfl, _, rfl, p, _, 0, _, rfl, rfl, SqL.of h3, rfl, l, _, rfl, .inl l3, _, _, rfl, rfl, _, rfl, ?_⟩
          refine ite2 (fun _ => ?_) (fun _ => ⟨rfl, rfl⟩)
          have az : 0 ≤ (if z < 0 then -z else z) := by split <;> omega
          refine ⟨_, rfl, _, rfl, _, rfl, _, _, rfl, rfl, ⟨mne, by omega⟩, _, rfl, p, _, 2, 2, rfl, rfl, h3, rfl, ?_⟩
          refine ⟨_, rfl, _, rfl, .inl ⟨_, rfl, _, rfl, _, _, rfl, rfl, mne, ?_⟩⟩
          refine k _ _ (fmod_lo m0) (fmod_hi m0) ?_ (K3.trans (Keep.put h3))
          exact ⟨l, ns, c + 1, (if z < 0 then -z else z).fdiv m, by rw [upd_same, ← en]; rfl, lp, (K3.trans (Keep.put h3)).seq lp hl, h63, by omega, fdiv_lo az m0⟩
        · rintro σ' H' ⟨rfl, rfl⟩
          -- otherwise mixed
          have a0 : 0 ≤ z.fmod 2147483629 := fmod_lo (by decide)
          have a1 : z.fmod 2147483629 < 2147483629 := fmod_hi (by decide)
          refine ⟨_, rfl, .inl ⟨_, rfl, _, _, rfl, rfl, (by show (2147483629 : Int) ≠ 0; decide), _, rfl, p, _, 3, _, rfl, rfl, SqL.of h3, rfl, _, _, rfl, rfl, .inl ⟨by show -(2 ^ 64) < (67867967 : Int); decide, by show (67867967 : Int) < 2 ^ 64; decide⟩, _, _, rfl, rfl, ?_⟩⟩
          refine .inl ⟨_, rfl, _, _, rfl, rfl, ⟨by show (0 : Int) ≤ 5; decide, by show (5 : Int) ≤ 1000000; decide, by omega⟩, _, _, rfl, rfl, (by show (2147483647 : Int) ≠ 0; decide), ?_⟩
          generalize ((z.fmod 2147483629 + 67867967 * ((n : Int) + 1)) ^ (5 : Int).toNat) = big
          have b0 : 0 ≤ big.fmod 2147483647 := fmod_lo (by decide)
          have b1 : big.fmod 2147483647 < 2147483647 := fmod_hi (by decide)
          obtain ⟨mix, hm⟩ : ∃ mix, mix = big.fmod 2147483647 := ⟨_, rfl⟩
          rw [← hm] at b0 b1
          have c1 : mix * (2 * ((n : Int) + 1) + 3) ≤ 2147483647 * 3000000 := Int.mul_le_mul (by omega) (by omega) (by omega) (by decide)
          have c2 : 0 ≤ mix * (2 * ((n : Int) + 1) + 3) := Int.mul_nonneg b0 (by omega)
          have c3 : (mix * (2 * ((n : Int) + 1) + 3) + 5323).natAbs < 2 ^ 64 := by omega
          have c4 : -(2 ^ 64) < mix ∧ mix < 2 ^ 64 := ⟨by omega, by omega⟩
          rw [hm] at c3 c4
          refine ⟨_, rfl, _, rfl, p, _, 3, _, rfl, rfl, SqL.of h3, rfl, _, _, rfl, rfl, .inl ⟨by show -(2 ^ 64) < (2 : Int); decide, by show (2 : Int) < 2 ^ 64; decide⟩, _, _, rfl, rfl, _, _, rfl, rfl, .inl c4, _, _, rfl, rfl, ?_⟩
          refine .inl ⟨_, rfl, _, _, rfl, rfl, ⟨by show (0 : Int) ≤ 3; decide, by show (3 : Int) ≤ 1000000; decide, c3⟩, _, _, rfl, rfl, (by show (2147483587 : Int) ≠ 0; decide), ?_⟩
          refine ⟨_, rfl, _, _, rfl, rfl, ⟨by show (64 : Int) ≠ 0; decide, by show (64 : Int).natAbs < 1073741824; decide⟩, _, rfl, _, _, rfl, rfl, mne, ?_⟩
          exact k _ _ (fmod_lo m0) (fmod_hi m0) D3 K3
theorem ok_one (T : Txt K mg) : FnOk P w K mg base CX0 2 T.a_one T.d_one ["_law_deck_here", "_law_items"] (sp_one K) := by
  have G_draw : FnOk P w K mg base CX0 1 T.a_draw T.d_draw ["_law_deck_here", "_law_many"] (sp_draw K) := ok_draw T
  refine T.F_one.ok sc_one (fun vs H Q E h => ?_) (fun cdv A outer s H vs Q E hr h => ?_)
  · obtain ⟨p, a, xs, n, rfl, _⟩ := h
    rfl
  · obtain ⟨p, a, xs, n, rfl, hx, ap, x0, x1, D, hn, k⟩ := h
    refine ⟨_, (pss_one (ps_ret (pe_ix ix_seq (pv 1) (pe_call G_draw (hr.mono (by omega)) (by rfl) T.g_draw T.F_draw.kp T.b_draw .nil pass0 (pa_cons (pv 0) (pa_cons (pe_callB (id := "len") call_len_seq (by rfl) T.m_len (by decide +kernel) (pa_cons (pv 1) pa_nil)) pa_nil))) (fun _ _ => rfl)))), ?_⟩
    refine ⟨_, rfl, _, rfl, _, rfl, a, xs, rfl, .inl hx, p, (xs.length : Int), n, rfl, by omega, by omega, D, hn, fun r J r0 r1 DJ KJ => ?_⟩
    obtain ⟨i, rfl⟩ : ∃ i : Nat, r = (i : Int) := ⟨r.toNat, (Int.toNat_of_nonneg r0).symm⟩
    have hi : i < xs.length := by omega
    refine rIx_of (.inl (KJ.seq ap hx)) (atI_nat (List.getElem?_eq_getElem hi)) ?_
    exact k i _ J (List.getElem?_eq_getElem hi) DJ KJ
end

/-! ### the deck made -/
theorem same_new {q : Addr} {H : Hp} {o : HO} (h : H q = none) : Same H (upd H q o) := fun b u e => by
  rw [upd_ne (ne_of_none e h)]
  exact e
theorem Deck.of_same {K : PySem.W.Frag} {H J : Hp} {p : Addr} {n : Nat} (D : Deck K H p n) (e : Same H J) : Deck K J p n := by
  obtain ⟨l, ns, c, r, hp, lp, hl, z⟩ := D
  exact ⟨l, ns, c, r, e _ _ hp, lp, e.seq hl, z⟩
theorem Keep.free {p q : Addr} {H J : Hp} (k : Keep p H J) (n : q ≠ p) (h : J q = none) : H q = none := by
  cases e : H q with
  | none => rfl
  | some o =>
    cases o with
    | tbl x =>
      obtain ⟨x', e', _⟩ := k.t q x e
      rw [e'] at h
      cases h
    | _ =>
      rw [k.at n e] at h
      cases h
def sp_deck (K : PySem.W.Frag) : Sp := fun vs H Q _ => ∃ (a : Addr) (ns : List Int), vs = [.ref a] ∧ SqL K H a (ns.map V.int) ∧ ns.length ≤ 63 ∧
  ∀ (p : Addr) (J : Hp), Deck K J p 0 → Same H J → H p = none → Q (.ref p) J
theorem cut63 (xs : List V) (h : xs.length ≤ 63) : cutV xs none (some 63) = xs := by
  unfold cutV
  rw [HT.sIx_none, show HT.sIx xs.length xs.length (some 63) = min 63 xs.length from HT.sIx_nat xs.length xs.length 63]
  rw [List.drop_zero, Nat.sub_zero, List.take_of_length_le (by omega)]
section
variable {P : Program} {w : World} {K : PySem.W.Frag} {mg : Str → Option Value} {base : Heap}
theorem ok_deck (T : Txt K mg) : FnOk P w K mg base CX0 1 T.a_deck T.d_deck ["_law_script"] (sp_deck K) := by
  refine T.F_deck.ok sc_deck (fun vs H Q E h => ?_) (fun cdv A outer s H vs Q E hr h => ?_)
  · obtain ⟨a, ns, rfl, _⟩ := h
    rfl
  · obtain ⟨a, ns, rfl, hl, h63, k⟩ := h
    refine ⟨_, (pss_one (ps_ret (pe_lst (pa_cons (pe_callTy (T := "list") call_list_of (by rfl) T.m_list (by decide +kernel) (pa_cons (pe_slice sl_list (pv 0) po_none (po_some pe_int)) pa_nil)) (pa_cons pe_int (pa_cons pe_int (pa_cons pe_int pa_nil))))))), ?_⟩
    refine ⟨_, rfl, 63, rfl, a, _, rfl, hl, fun c hc => ?_⟩
    have s1 : Same H (upd H c (.lst (cutV (ns.map V.int) none (some 63)))) := same_new hc
    refine ⟨c, _, rfl, .inl (SqL.of upd_same), fun l hl' => ?_⟩
    refine ⟨by show 4 ≤ sizeLine; decide, fun p hp => ?_⟩
    have s2 := s1.trans (same_new (o := .lst (cutV (ns.map V.int) none (some 63))) hl')
    have lp : l ≠ p := fun e => by
      rw [← e, upd_same] at hp
      cases hp
    refine k p _ ⟨l, ns, 0, 0, upd_same, lp, SqL.of ?_, h63, by decide, by decide⟩ (s2.trans (same_new hp)) (s2.free hp)
    rw [upd_ne lp, upd_same, cut63 _ (by rw [List.length_map]; exact h63)]
end

/-! ### powers, houses drawn -/
def HouseOf (room s r g : Int) : Prop := 2 ≤ s ∧ s ≤ 4 ∧ 1 ≤ r ∧ r ≤ 6 ∧ 0 ≤ g ∧ g ≤ 3 ∧ s ^ (g + 1).toNat ≤ room
def sp_power : Sp := fun vs H Q _ => ∃ (s g : Int), vs = [.int s, .int g] ∧ 0 ≤ s ∧ s ≤ 100 ∧ -1 ≤ g ∧ g ≤ 100 ∧ Q (.int (s ^ (g + 1).toNat)) H
def sp_house (K : PySem.W.Frag) : Sp := fun vs H Q _ => ∃ (p : Addr) (room : Int) (n : Nat), vs = [.ref p, .int room] ∧ 4 ≤ room ∧ Deck K H p n ∧ n < 900000 ∧
  ∀ (s r g : Int) (t : Addr) (J : Hp), HouseOf room s r g → J t = some (.tup [.int s, .int r, .int g]) → H t = none → Deck K J p (n + 4) → Keep p H J → Q (.ref t) J
section
variable {P : Program} {w : World} {K : PySem.W.Frag} {mg : Str → Option Value} {base : Heap}
theorem ok_power (T : Txt K mg) : FnOk P w K mg base CX0 1 T.a_power T.d_power ["_law_servers", "_law_lag"] sp_power := by
  refine T.F_power.ok sc_power (fun vs H Q E h => ?_) (fun cdv A outer s H vs Q E hr h => ?_)
  · obtain ⟨s, g, rfl, _⟩ := h
    rfl
  · obtain ⟨z, g, rfl, s0, s1, g0, g1, k⟩ := h
    refine ⟨_, (pss_cons (ps_set (i := 2) sc_power.nd rfl (Or.inl rfl) pe_int)
      (pss_cons (ps_for PassesOwn.never rfl (pi_range1 (by rfl) T.m_range (pa_cons (pe_op op_add (pv 1) pe_int) pa_nil)) (pg_name (i := 3) sc_power.nd rfl (Or.inl rfl))
        (pss_one (ps_set (i := 2) sc_power.nd rfl (Or.inl rfl) (pe_op op_mul (pv 2) (pv 0)))))
      (pss_one (ps_ret (pv 2))))), ?_⟩
    refine ⟨_, rfl, _, _, rfl, rfl, _, rfl, by omega, by omega, for_range (lo := 0) (n := (g + 1).toNat) (fun i σ H' => H' = H ∧ ∃ y, σ = [some (.int z), some (.int g), some (.int (z ^ i)), y]) ⟨rfl, none, by rw [Int.pow_zero]; rfl⟩ ?_ ?_⟩
    · rintro i σ H' hi ⟨rfl, y, rfl⟩
      refine ⟨_, rfl, _, rfl, _, _, rfl, rfl, .inr ⟨by omega, by omega⟩, rfl, some (.int (0 + (i : Int))), ?_⟩
      rw [Int.pow_succ]
      rfl
    · rintro σ H' ⟨rfl, y, rfl⟩
      exact ⟨_, rfl, k⟩
theorem ok_house (T : Txt K mg) : FnOk P w K mg base CX0 3 T.a_house T.d_house ["_law_deck_here", "_law_room"] (sp_house K) := by
  have G_draw : FnOk P w K mg base CX0 1 T.a_draw T.d_draw ["_law_deck_here", "_law_many"] (sp_draw K) := ok_draw T
  have G_one : FnOk P w K mg base CX0 2 T.a_one T.d_one ["_law_deck_here", "_law_items"] (sp_one K) := ok_one T
  have G_power : FnOk P w K mg base CX0 1 T.a_power T.d_power ["_law_servers", "_law_lag"] sp_power := ok_power T
  refine T.F_house.ok sc_house (fun vs H Q E h => ?_) (fun cdv A outer s H vs Q E hr h => ?_)
  · obtain ⟨p, room, n, rfl, _⟩ := h
    rfl
  · obtain ⟨p, room, n, rfl, r4, D, hn, k⟩ := h
    refine ⟨_, (pss_cons (ps_set (i := 2) sc_house.nd rfl (Or.inr rfl) (pe_call G_one (hr.mono (by omega)) (by rfl) T.g_one T.F_one.kp T.b_one .nil pass0 (pa_cons (pv 0) (pa_cons (pe_lst (pa_cons pe_int (pa_cons pe_int (pa_cons pe_int (pa_cons pe_int (pa_cons pe_int pa_nil)))))) pa_nil))))
      (pss_cons (ps_setLc (i := 3) (own := [("_law_lag", 4)]) (g := gName 4) (by rfl) sc_house.nd rfl rfl (sw_true rfl rfl rfl (by decide +kernel)) (pi_range1 (by rfl) T.m_range (pa_cons pe_int pa_nil)) (blkOk_by (own := [("_law_lag", 4)]) (N := ["_law_deck_here", "_law_room", "_law_servers", "_law_fits", "_law_lag"]) (sc := defScope s_house) (by decide +kernel)) (fun _ _ _ _ _ => (pg_name (i := 4) sc_house.nd rfl (Or.inl rfl))) (fun _ _ _ _ _ => (pts_one (pt_cmpR op_le (pe_call G_power (hr.mono (by omega)) (by rfl) T.g_power T.F_power.kp T.b_power .nil pass0 (pa_cons (pv 2) (pa_cons (pv 4) pa_nil))) (pv 1) (nomark _)))) (fun _ _ _ _ _ => (pv 4)))
      (pss_cons (ps_set (i := 4) sc_house.nd rfl (Or.inl rfl) (pe_call G_one (hr.mono (by omega)) (by rfl) T.g_one T.F_one.kp T.b_one .nil pass0 (pa_cons (pv 0) (pa_cons (pv 3) pa_nil))))
      (pss_one (ps_ret (pe_tup (pa_cons (pv 2) (pa_cons (pe_call G_one (hr.mono (by omega)) (by rfl) T.g_one T.F_one.kp T.b_one .nil pass0 (pa_cons (pv 0) (pa_cons (pe_lst (pa_cons pe_int (pa_cons pe_int (pa_cons pe_int (pa_cons pe_int (pa_cons pe_int (pa_cons (pe_op op_add pe_int (pe_call G_draw (hr.mono (by omega)) (by rfl) T.g_draw T.F_draw.kp T.b_draw .nil pass0 (pa_cons (pv 0) (pa_cons pe_int pa_nil)))) pa_nil))))))) pa_nil))) (pa_cons (pv 4) pa_nil))))))))), ?_⟩
    -- servers
    refine ⟨_, rfl, by show 5 ≤ sizeLine; decide, fun l hl => ?_⟩
    refine ⟨p, l, _, n, rfl, SqL.of upd_same, D.ne_new hl, by show 0 < 5; decide, by show 5 < 100000; decide, D.put hl, by omega, fun i x J hx DJ KJ => ?_⟩
    obtain ⟨z, rfl, z2, z4⟩ : ∃ z : Int, x = .int z ∧ 2 ≤ z ∧ z ≤ 4 := by
      have m := List.mem_of_getElem? hx
      simp only [List.mem_cons, List.not_mem_nil, or_false] at m
      rcases m with m | m | m | m | m <;> exact ⟨_, m, by decide, by decide⟩
    have K1 : Keep p H J := (Keep.new hl).trans KJ
    -- the lags that fit
    refine ⟨4, rfl, by show -(2 ^ 62) ≤ (4 : Int); decide, by show (4 : Int) < 2 ^ 62; decide, fun F hF => ?_⟩
    refine lc_range (lo := 0) (n := 4) (fun i H' => ∃ acc : List Int, H' = upd J F (.lst (acc.map V.int)) ∧ acc.length ≤ i ∧ (0 < i → acc ≠ []) ∧ ∀ y ∈ acc, 0 ≤ y ∧ y ≤ 3 ∧ z ^ (y + 1).toNat ≤ room)
      ⟨[], rfl, Nat.le_refl _, fun q => absurd q (by decide), fun y q => (List.not_mem_nil q).elim⟩ ?_ ?_
    · rintro i H' hi ⟨acc, rfl, al, an, ay⟩
      refine ⟨rfl, ?_⟩
      refine ⟨_, rfl, _, rfl, z, 0 + (i : Int), rfl, by omega, by omega, by omega, by omega, _, rfl, _, _, rfl, rfl, _, rfl, ?_⟩
      refine ite2 (fun e => ?_) (fun e => ?_)
      · have le := of_decide_eq_true e
        refine ⟨_, rfl, acc.map V.int, upd_same, small1000 (by rw [List.length_map]; omega), acc ++ [0 + (i : Int)], ?_, by rw [List.length_append, List.length_singleton]; omega, fun _ q => ?_, ?_⟩
        · rw [upd_upd, List.map_append]
          rfl
        · exact absurd (congrArg List.length q) (by rw [List.length_append, List.length_singleton, List.length_nil]; omega)
        · intro y hy
          rcases List.mem_append.mp hy with q | q
          · exact ay y q
          · rw [List.mem_singleton] at q
            rw [q]
            exact ⟨by omega, by omega, le⟩
      · refine ⟨acc, rfl, by omega, fun _ => ?_, ay⟩
        cases i with
        | zero =>
          refine absurd ?_ e
          refine decide_eq_true ?_
          have : z ^ (0 + ((0 : Nat) : Int) + 1).toNat = z := by
            show z ^ 1 = z
            rw [Int.pow_succ, Int.pow_zero, Int.one_mul]
          rw [this]
          omega
        | succ i => exact an (Nat.succ_pos i)
    · rintro H' ⟨acc, rfl, al, an, ay⟩
      have DF := DJ.put (o := .lst (acc.map V.int)) hF
      have K2 : Keep p H (upd J F (.lst (acc.map V.int))) := K1.trans (Keep.new hF)
      have a0 : 0 < acc.length := by
        cases acc with
        | nil => exact absurd rfl (an (by decide))
        | cons _ _ => exact Nat.succ_pos _
      -- the lag
      refine ⟨_, rfl, _, rfl, p, F, _, n + 1, rfl, SqL.of upd_same, DJ.ne_new hF, by rw [List.length_map]; exact a0, by rw [List.length_map]; omega, DF, by omega, fun j x J2 hx2 DJ2 KJ2 => ?_⟩
      obtain ⟨g, rfl, g0, g3, gr⟩ : ∃ g : Int, x = .int g ∧ 0 ≤ g ∧ g ≤ 3 ∧ z ^ (g + 1).toNat ≤ room := by
        have m := List.mem_of_getElem? hx2
        obtain ⟨y, hy, rfl⟩ := List.mem_map.mp m
        exact ⟨y, rfl, ay y hy⟩
      have K3 := K2.trans KJ2
      -- the rest
      refine ⟨_, rfl, _, rfl, _, rfl, p, 6, n + 2, rfl, by decide, by decide, DJ2, by omega, fun r J3 r0 r1 DJ3 KJ3 => ?_⟩
      have K4 := K3.trans KJ3
      refine ⟨_, _, rfl, rfl, by show 6 ≤ sizeLine; decide, fun l3 hl3 => ?_⟩
      refine ⟨p, l3, _, n + 3, rfl, SqL.of upd_same, DJ3.ne_new hl3, by show 0 < 6; decide, by show 6 < 100000; decide, DJ3.put hl3, by omega, fun j3 x3 J4 hx3 DJ4 KJ4 => ?_⟩
      obtain ⟨y, rfl, y1, y6⟩ : ∃ y : Int, x3 = .int y ∧ 1 ≤ y ∧ y ≤ 6 := by
        have m := List.mem_of_getElem? hx3
        simp only [List.mem_cons, List.not_mem_nil, or_false] at m
        rcases m with m | m | m | m | m | m
        · exact ⟨_, m, by decide, by decide⟩
        · exact ⟨_, m, by decide, by decide⟩
        · exact ⟨_, m, by decide, by decide⟩
        · exact ⟨_, m, by decide, by decide⟩
        · exact ⟨_, m, by decide, by decide⟩
        · exact ⟨_, m, by omega, by omega⟩
      have K5 : Keep p H J4 := (K4.trans (Keep.new hl3)).trans KJ4
      refine ⟨_, rfl, by show 3 ≤ sizeLine; decide, fun t ht => ?_⟩
      exact k z y g t _ ⟨z2, z4, y1, y6, g0, g3, gr⟩ upd_same (K5.free (DJ4.ne_new ht) ht) (DJ4.put ht) (K5.trans (Keep.new ht))
end

/-! ### data behind the deck -/
/-- data behind the deck -/
abbrev Dt (K : PySem.W.Frag) (p : Addr) (H : Hp) (v : V) (d : PyData) : Prop := Dp K (off p H) v d
theorem Keep.dt {K : PySem.W.Frag} {p : Addr} {H J : Hp} {v : V} {d : PyData} (k : Keep p H J) (h : Dt K p H v d) : Dt K p J v d := dpSame k.s d v h
theorem Keep.all {K : PySem.W.Frag} {p : Addr} {H J : Hp} {vs : List V} {ds : List PyData} (k : Keep p H J) (h : DpAll K (off p H) vs ds) : DpAll K (off p J) vs ds := dpAllSame k.s ds vs h
theorem dt_tup {K : PySem.W.Frag} {p t : Addr} {H : Hp} {vs : List V} {ds : List PyData} (tp : t ≠ p) (ht : H t = none) (h : DpAll K (off p H) vs ds) : Dt K p (upd H t (.tup vs)) (.ref t) (.tuple ds) :=
  .tup (SqT.of (off_at tp upd_same)) (Keep.all (Keep.new ht) h)
theorem dt_lst {K : PySem.W.Frag} {p t : Addr} {H : Hp} {vs : List V} {ds : List PyData} (tp : t ≠ p) (ht : H t = none) (h : DpAll K (off p H) vs ds) : Dt K p (upd H t (.lst vs)) (.ref t) (.list ds) :=
  .lst (SqL.of (off_at tp upd_same)) (Keep.all (Keep.new ht) h)
theorem dpAll_snoc {K : PySem.W.Frag} {H : Hp} {vs : List V} {ds : List PyData} {v : V} {d : PyData} (a : DpAll K H vs ds) (b : Dp K H v d) : DpAll K H (vs ++ [v]) (ds ++ [d]) := dpAll_append a (.cons b .nil)
theorem niceAll_append {e : Nat} (a b : List PyData) : niceAll e (a ++ b) = (niceAll e a && niceAll e b) := by
  induction a with
  | nil => simp [niceAll]
  | cons x a ih => simp [niceAll, ih, Bool.and_assoc]
theorem niceAll_reverse {e : Nat} {a : List PyData} (h : niceAll e a = true) : niceAll e a.reverse = true :=
  niceAll_iff.mpr fun d hd => niceAll_iff.mp h d (List.mem_reverse.mp hd)
theorem depthAll_reverse (a : List PyData) : PyData.depthAll a.reverse = PyData.depthAll a :=
  Nat.le_antisymm (depthAll_le.mpr fun d hd => depthAll_le.mp (Nat.le_refl _) d (List.mem_reverse.mp hd)) (depthAll_le.mpr fun d hd => depthAll_le.mp (Nat.le_refl _) d (List.mem_reverse.mpr hd))
theorem split_at {α : Type} {l : List α} {j : Nat} {x : α} (h : l[j]? = some x) : l = l.take j ++ x :: l.drop (j + 1) := by
  have hj := (List.getElem?_eq_some_iff.mp h).1
  have e := (List.getElem?_eq_some_iff.mp h).2
  rw [← e, List.getElem_cons_drop, List.take_append_drop]
theorem cut_to (xs : List V) (j : Nat) (h : j ≤ xs.length) : cutV xs none (some (j : Int)) = xs.take j := by
  unfold cutV
  rw [HT.sIx_none, HT.sIx_nat, List.drop_zero, Nat.sub_zero, Nat.min_eq_left h]
theorem cut_from (xs : List V) (j : Nat) (h : j ≤ xs.length) : cutV xs (some (j : Int)) none = xs.drop j := by
  unfold cutV
  rw [HT.sIx_none, HT.sIx_nat, Nat.min_eq_left h, List.take_of_length_le (by rw [List.length_drop]; exact Nat.le_refl _)]
theorem isA_tup {d : PyData} (h : isA "tuple" d = true) : ∃ ds, d = .tuple ds := by
  cases d <;> first | exact ⟨_, rfl⟩ | (exfalso; revert h; simp [isA, isS, kindD])
theorem isA_int {d : PyData} (h : isA "int" d = true) (hb : isA "bool" d = false) : ∃ i, d = .int i := by
  cases d <;> first | exact ⟨_, rfl⟩ | (exfalso; revert h hb; simp [isA, isS, kindD])
theorem Dt.get {K : PySem.W.Frag} {p : Addr} {H : Hp} {v : V} {ds : List PyData} (h : Dt K p H v (.tuple ds)) : ∃ (a : Addr) (xs : List V), v = .ref a ∧ SqT K H a xs ∧ DpAll K (off p H) xs ds := by
  cases h with | tup h1 h2 => exact ⟨_, _, rfl, sameT off_in h1, h2⟩
theorem dt_of {K : PySem.W.Frag} {p t : Addr} {H : Hp} {n : Nat} {xs : List V} {ds : List PyData} (D : Deck K H p n) (h : SqT K H t xs) (a : DpAll K (off p H) xs ds) : Dt K p H (.ref t) (.tuple ds) := by
  obtain ⟨_, _, _, _, hp, _⟩ := D
  exact .tup (tup_off hp h) a
theorem paired_snoc {α β : Type} {F : α → β → Prop} : ∀ {as : List α} {bs : List β} {a : α} {b : β}, Paired F as bs → F a b → Paired F (as ++ [a]) (bs ++ [b])
  | _, _, _, _, .nil, h => .cons h .nil
  | _, _, _, _, .cons r t, h => .cons r (paired_snoc t h)
/-- on the way through a list of data: what has been made so far -/
structure Acc (K : PySem.W.Frag) (p : Addr) (n : Nat) (H0 H : Hp) (vs : List V) (ds : List PyData) : Prop where
  dk : Deck K H p n
  al : DpAll K (off p H) vs ds
  kp : Keep p H0 H
section
variable {K : PySem.W.Frag} {p t : Addr} {n : Nat} {vs us : List V} {ds es : List PyData} {H0 H J : Hp}
theorem Acc.same (a : Acc K p n H0 H vs ds) (s : Same H J) : Acc K p n H0 J vs ds := ⟨a.dk.of_same s, Keep.all (Keep.of_same s) a.al, a.kp.trans (Keep.of_same s)⟩
theorem Acc.new {o : HO} (a : Acc K p n H0 H vs ds) (h : H t = none) : Acc K p n H0 (upd H t o) vs ds := a.same (same_new h)
theorem Acc.add {v : V} {d : PyData} (a : Acc K p n H0 H vs ds) (b : Dt K p H v d) : Acc K p n H0 H (vs ++ [v]) (ds ++ [d]) := ⟨a.dk, dpAll_snoc a.al b, a.kp⟩
theorem Acc.keep {m : Nat} (a : Acc K p n H0 H vs ds) (k : Keep p H J) (D : Deck K J p m) : Acc K p m H0 J vs ds := ⟨D, k.all a.al, a.kp.trans k⟩
end
theorem dpAll_flat {K : PySem.W.Frag} {H : Hp} {vs : List V} {ds : List PyData} (h : DpAll K H vs ds) : ∀ n : Nat, DpAll K H (List.replicate n vs).flatten (List.replicate n ds).flatten
  | 0 => .nil
  | n + 1 => by
    rw [List.replicate_succ, List.replicate_succ, List.flatten_cons, List.flatten_cons]
    exact dpAll_append h (dpAll_flat h n)
theorem wt_flat (ds : List PyData) : ∀ n : Nat, wtAll (List.replicate n ds).flatten = n * wtAll ds
  | 0 => by simp [wtAll]
  | n + 1 => by
    rw [List.replicate_succ, List.flatten_cons, wtAll_append, wt_flat ds n, Nat.succ_mul]
    omega
theorem mem_flat {ds : List PyData} {d : PyData} : ∀ {n : Nat}, d ∈ (List.replicate n ds).flatten → d ∈ ds := fun {n} h => by
  obtain ⟨l, hl, hd⟩ := List.mem_flatten.mp h
  rw [List.eq_of_mem_replicate hl] at hd
  exact hd
theorem wt_take (ds : List PyData) (j : Nat) : wtAll (ds.take j) ≤ wtAll ds := by
  have := congrArg wtAll (List.take_append_drop j ds)
  rw [wtAll_append] at this
  omega
theorem wt_drop (ds : List PyData) (j : Nat) : wtAll (ds.drop j) ≤ wtAll ds := by
  have := congrArg wtAll (List.take_append_drop j ds)
  rw [wtAll_append] at this
  omega
/-- tuples and lists of small items -/
theorem tiny_tup {e W m : Nat} {ds : List PyData} (h : ∀ d ∈ ds, nice e d = true ∧ d.depth ≤ m) (hw : wtAll ds < W) : Tiny e W (m + 1) (.tuple ds) ∧ Tiny e W (m + 1) (.list ds) := by
  have a : niceAll e ds = true := niceAll_iff.mpr fun d hd => (h d hd).1
  have b : PyData.depthAll ds ≤ m := depthAll_le.mpr fun d hd => (h d hd).2
  refine ⟨⟨by simpa only [nice] using a, by simp only [wt]; omega, by simp only [PyData.depth]; omega⟩, ⟨by simpa only [nice] using a, by simp only [wt]; omega, by simp only [PyData.depth]; omega⟩⟩

/-! ### tables drawn -/
abbrev Row : Type := Str × Int × Int
def rowD (r : Row) : PyData := .tuple [.str r.1, .int r.2.1, .int r.2.2]
def tableD (rs : List Row) : PyData := .tuple (rs.map rowD)
def deedOk (x : Str) : Prop := x = "named" ∨ x = "next" ∨ x = "wait"
def RowOf (m : Int) (r : Row) : Prop := deedOk r.1 ∧ 0 ≤ r.2.1 ∧ r.2.1 < m ∧ 0 ≤ r.2.2 ∧ r.2.2 < m
def TableOf (room : Int) (rs : List Row) : Prop := 1 ≤ rs.length ∧ (rs.length : Int) ≤ room ∧ ∀ r ∈ rs, RowOf (rs.length : Int) r
theorem dp_row {K : PySem.W.Frag} {H : Hp} {v : V} {r : Row} (h : Dp K H v (rowD r)) : ∃ a, v = .ref a ∧ SqT K H a [.str r.1, .int r.2.1, .int r.2.2] := by
  cases h with
  | tup h1 h2 =>
    cases h2 with
    | cons a h2 =>
    cases h2 with
    | cons b h2 =>
    cases h2 with
    | cons c h2 =>
    cases h2
    cases a
    cases b
    cases c
    exact ⟨_, rfl, h1⟩
theorem dp_table {K : PySem.W.Frag} {H : Hp} {v : V} {rs : List Row} (h : Dp K H v (tableD rs)) : ∃ (a : Addr) (xs : List V), v = .ref a ∧ SqT K H a xs ∧ xs.length = rs.length ∧
    ∀ (i : Nat) (r : Row), rs[i]? = some r → ∃ b, xs[i]? = some (.ref b) ∧ SqT K H b [.str r.1, .int r.2.1, .int r.2.2] := by
  cases h with
  | tup h1 h2 =>
    rename_i a xs
    have hl := dpAll_len h2
    rw [List.length_map] at hl
    refine ⟨a, xs, rfl, h1, hl, fun i r hr => ?_⟩
    have hi : i < xs.length := by
      rw [hl]
      exact (List.getElem?_eq_some_iff.mp hr).1
    obtain ⟨d, e1, e2⟩ := dpAll_get h2 (List.getElem?_eq_getElem hi)
    rw [List.getElem?_map, hr] at e1
    cases e1
    obtain ⟨b, eb, sb⟩ := dp_row e2
    exact ⟨b, by rw [List.getElem?_eq_getElem hi, eb], sb⟩
theorem dp_three {K : PySem.W.Frag} {H : Hp} {v : V} {x y z : Int} (h : Dp K H v (.tuple [.int x, .int y, .int z])) : ∃ a, v = .ref a ∧ SqT K H a [.int x, .int y, .int z] := by
  cases h with
  | tup h1 h2 =>
    cases h2 with
    | cons a h2 =>
    cases h2 with
    | cons b h2 =>
    cases h2 with
    | cons c h2 =>
    cases h2
    cases a
    cases b
    cases c
    exact ⟨_, rfl, h1⟩
theorem dp_three_at {K : PySem.W.Frag} {H : Hp} {a : Addr} {x y z : Int} (h : Dp K H (.ref a) (.tuple [.int x, .int y, .int z])) : SqT K H a [.int x, .int y, .int z] := by
  obtain ⟨b, e, s⟩ := dp_three h
  cases e
  exact s
theorem row_nice {m : Int} {r : Row} {e : Nat} (he : 10 ≤ e) (hm : m ≤ 1000) (h : RowOf m r) : nice e (rowD r) = true := by
  obtain ⟨hd, a0, a1, b0, b1⟩ := h
  have p : 2 ^ 10 ≤ 2 ^ e := Nat.pow_le_pow_right (by decide) he
  have h1 : r.2.1.natAbs < 2 ^ e := by omega
  have h2 : r.2.2.natAbs < 2 ^ e := by omega
  have h3 : nice e (.str r.1) = true := by rcases hd with h | h | h <;> (rw [h]; simp only [nice]; decide +kernel)
  simp only [rowD, nice, niceAll, Bool.and_eq_true, decide_eq_true_eq]
  refine ⟨by simpa only [nice, Bool.and_eq_true, decide_eq_true_eq] using h3, h1, h2, trivial⟩
theorem row_wt (r : Row) : wt (rowD r) = 4 := by simp only [rowD, wt, wtAll]
theorem row_depth (r : Row) : (rowD r).depth = 1 := by simp only [rowD, PyData.depth, PyData.depthAll]; rfl
theorem table_wt : ∀ rs : List Row, wtAll (rs.map rowD) = 4 * rs.length
  | [] => rfl
  | r :: rs => by
    rw [List.map_cons, List.length_cons]
    simp only [wtAll, row_wt, table_wt rs]
    omega
theorem table_tiny {room : Int} {rs : List Row} (hr : room ≤ 100) (h : TableOf room rs) : Tiny 140 (4 * rs.length + 1) 2 (tableD rs) := by
  obtain ⟨h1, h2, h3⟩ := h
  refine ⟨?_, ?_, ?_⟩
  · simp only [tableD, nice]
    refine niceAll_iff.mpr fun d hd => ?_
    obtain ⟨r, hr', rfl⟩ := List.mem_map.mp hd
    exact row_nice (by decide) (by omega) (h3 r hr')
  · simp only [tableD, wt, table_wt]
    omega
  · simp only [tableD, PyData.depth]
    have : PyData.depthAll (rs.map rowD) ≤ 1 := depthAll_le.mpr fun d hd => by
      obtain ⟨r, _, rfl⟩ := List.mem_map.mp hd
      rw [row_depth]
      exact Nat.le_refl _
    omega
def RowAt (H : Hp) (p F : Addr) (v : V) (r : Row) : Prop := ∃ b : Addr, v = .ref b ∧ b ≠ p ∧ b ≠ F ∧ H b = some (.tup [.str r.1, .int r.2.1, .int r.2.2])
theorem rows_dp {K : PySem.W.Frag} {H : Hp} {p F : Addr} : ∀ {vs : List V} {rs : List Row}, Paired (RowAt H p F) vs rs → DpAll K (off p H) vs (rs.map rowD)
  | _, _, .nil => .nil
  | _, _, .cons ⟨b, e, b1, _, hb⟩ t => by
    subst e
    exact .cons (.tup (SqT.of (off_at b1 hb)) (.cons (.str _) (.cons (.int _) (.cons (.int _) .nil)))) (rows_dp t)
def sp_table (K : PySem.W.Frag) : Sp := fun vs H Q _ => ∃ (p : Addr) (room : Int) (n : Nat), vs = [.ref p, .int room] ∧ 1 ≤ room ∧ room ≤ 100 ∧ Deck K H p n ∧ n < 800000 ∧
  ∀ (rs : List Row) (v : V) (J : Hp) (n' : Nat), TableOf room rs → Dt K p J v (tableD rs) → n' ≤ n + 1 + 3 * rs.length → Deck K J p n' → Keep p H J → Q v J
section
variable {P : Program} {w : World} {K : PySem.W.Frag} {mg : Str → Option Value} {base : Heap}
theorem ok_table (T : Txt K mg) : FnOk P w K mg base CX0 3 T.a_table T.d_table ["_law_deck_here", "_law_room"] (sp_table K) := by
  have G_draw : FnOk P w K mg base CX0 1 T.a_draw T.d_draw ["_law_deck_here", "_law_many"] (sp_draw K) := ok_draw T
  have G_one : FnOk P w K mg base CX0 2 T.a_one T.d_one ["_law_deck_here", "_law_items"] (sp_one K) := ok_one T
  refine T.F_table.ok sc_table (fun vs H Q E h => ?_) (fun cdv A outer s H vs Q E hr h => ?_)
  · obtain ⟨p, room, n, rfl, _⟩ := h
    rfl
  · obtain ⟨p, room, n, rfl, r1, r2, D, hn, k⟩ := h
    refine ⟨_, (pss_cons (ps_set (i := 2) sc_table.nd rfl (Or.inl rfl) (pe_op op_add pe_int (pe_call G_draw (hr.mono (by omega)) (by rfl) T.g_draw T.F_draw.kp T.b_draw .nil pass0 (pa_cons (pv 0) (pa_cons (pv 1) pa_nil)))))
      (pss_cons (ps_set (i := 3) sc_table.nd rfl (Or.inl rfl) (pe_lst pa_nil))
      (pss_cons (ps_for PassesOwn.never rfl (pi_range1 (by rfl) T.m_range (pa_cons (pv 2) pa_nil)) (pg_name (i := 4) sc_table.nd rfl (Or.inl rfl))
        (pss_cons (ps_set (i := 5) sc_table.nd rfl (Or.inl rfl) (pe_call G_one (hr.mono (by omega)) (by rfl) T.g_one T.F_one.kp T.b_one .nil pass0 (pa_cons (pv 0) (pa_cons (pe_lst (pa_cons pe_str (pa_cons pe_str (pa_cons pe_str (pa_cons pe_str (pa_cons pe_str pa_nil)))))) pa_nil))))
      (pss_one (ps_expr (pe_bm PySem.F.plainAttrs_list PySem.F.slot_list_append PySem.F.type_list_append mt_append (pv 3) (pa_cons (pe_tup (pa_cons (pv 5) (pa_cons (pe_call G_draw (hr.mono (by omega)) (by rfl) T.g_draw T.F_draw.kp T.b_draw .nil pass0 (pa_cons (pv 0) (pa_cons (pv 2) pa_nil))) (pa_cons (pe_call G_draw (hr.mono (by omega)) (by rfl) T.g_draw T.F_draw.kp T.b_draw .nil pass0 (pa_cons (pv 0) (pa_cons (pv 2) pa_nil))) pa_nil)))) pa_nil))))))
      (pss_one (ps_ret (pe_callTy (T := "tuple") call_tuple_of (by rfl) T.m_tuple (by decide +kernel) (pa_cons (pv 3) pa_nil))))))), ?_⟩
    -- how many rows
    refine ⟨_, rfl, _, rfl, p, room, n, rfl, by omega, by omega, D, by omega, fun m J m0 m1 D1 K1 => ⟨_, _, rfl, rfl, by show 0 ≤ sizeLine; decide, fun F hF => ?_⟩⟩
    have FP : F ≠ p := D1.ne_new hF
    refine ⟨_, rfl, 1 + m, rfl, by omega, by omega, for_range (lo := 0) (n := (1 + m).toNat) (fun i σ J' => ∃ (y4 y5 : Option V) (rs : List Row) (vs : List V), σ = [some (.ref p), some (.int room), some (.int (1 + m)), some (.ref F), y4, y5] ∧ rs.length = i ∧ vs.length = i ∧ J' F = some (.lst vs) ∧ Paired (RowAt J' p F) vs rs ∧ (∀ r ∈ rs, RowOf (1 + m) r) ∧ Deck K J' p (n + 1 + 3 * i) ∧ Keep p J J')
      ⟨none, none, [], [], rfl, rfl, rfl, upd_same, .nil, fun r h => (List.not_mem_nil h).elim, D1.put hF, Keep.new hF⟩ ?_ ?_⟩
    · rintro i σ J' hi ⟨y4, y5, rs, vs, rfl, hl, hv, hF', al, hrs, D2, K2⟩
      have hi' : (i : Int) < 1 + m := by omega
      -- the deed
      refine ⟨_, rfl, by show 5 ≤ sizeLine; decide, fun l hl' => ?_⟩
      refine ⟨p, l, _, _, rfl, SqL.of upd_same, D2.ne_new hl', by show 0 < 5; decide, by show 5 < 100000; decide, D2.put hl', by omega, fun j x J3 hx D3 K3 => ?_⟩
      obtain ⟨dd, rfl, hdd⟩ : ∃ dd : Str, x = .str dd ∧ deedOk dd := by
        have mm := List.mem_of_getElem? hx
        simp only [List.mem_cons, List.not_mem_nil, or_false] at mm
        rcases mm with q | q | q | q | q
        · exact ⟨_, q, .inl rfl⟩
        · exact ⟨_, q, .inl rfl⟩
        · exact ⟨_, q, .inr (.inl rfl)⟩
        · exact ⟨_, q, .inr (.inl rfl)⟩
        · exact ⟨_, q, .inr (.inr rfl)⟩
      have K13 := (Keep.new hl').trans K3
      -- its row
      refine ⟨_, rfl, .inl ⟨rfl, _, SqL.of (K13.at FP hF')⟩, _, rfl, _, rfl, _, rfl, p, 1 + m, _, rfl, by omega, by omega, D3, by omega, fun a J4 a0 a1 D4 K4 => ?_⟩
      refine ⟨_, rfl, _, rfl, p, 1 + m, _, rfl, by omega, by omega, D4, by omega, fun b J5 b0 b1 D5 K5 => ?_⟩
      refine ⟨by show 3 ≤ sizeLine; decide, fun t ht => ?_⟩
      have K25 : Keep p J' J5 := (K13.trans K4).trans K5
      have hF5 : J5 F = some (.lst vs) := K25.at FP hF'
      have tF : t ≠ F := (ne_of_none hF5 ht).symm
      have tp : t ≠ p := D5.ne_new ht
      refine ⟨F, vs, _, rfl, rfl, by rw [upd_ne tF.symm]; exact hF5, Nat.lt_of_lt_of_le (by omega : vs.length < 1000) (by decide), ?_⟩
      have hK : Keep p J (upd (upd J5 t (.tup [.str dd, .int a, .int b])) F (.lst (vs ++ [.ref t]))) := by
        have z : Keep p J (upd J5 t (.tup [.str dd, .int a, .int b])) := (K2.trans K25).trans (Keep.new ht)
        exact z.write hF FP
      refine ⟨_, _, rs ++ [(dd, a, b)], vs ++ [.ref t], rfl, by rw [List.length_append, List.length_singleton, hl], by rw [List.length_append, List.length_singleton, hv], upd_same, ?_, ?_, ?_, hK⟩
      · refine paired_snoc (Paired.mapP al fun v r ⟨c, e, c1, c2, c3⟩ => ⟨c, e, c1, c2, ?_⟩) ⟨t, rfl, tp, tF, by rw [upd_ne tF, upd_same]⟩
        rw [upd_ne c2]
        exact (Keep.new (p := p) ht).at c1 (K25.at c1 c3)
      · intro r hr'
        rcases List.mem_append.mp hr' with q | q
        · exact hrs r q
        · rw [List.mem_singleton] at q
          rw [q]
          exact ⟨hdd, a0, a1, b0, b1⟩
      · have D6 := D5.put (o := .tup [.str dd, .int a, .int b]) ht
        have D7 := D1.write hF ((K2.trans K25).trans (Keep.new (o := .tup [.str dd, .int a, .int b]) ht)) D6 (o := .lst (vs ++ [.ref t]))
        exact D7
    · rintro σ J' ⟨y4, y5, rs, vs, rfl, hl, hv, hF', al, hrs, D2, K2⟩
      have el : (rs.length : Int) = 1 + m := by omega
      refine ⟨_, rfl, F, vs, rfl, .inl ⟨SqL.of hF', fun t ht => ?_⟩⟩
      have tp := D2.ne_new ht
      have KT : Keep p J' (upd J' t (.tup vs)) := Keep.new ht
      refine k rs _ _ (n + 1 + 3 * (1 + m).toNat) ⟨by omega, by omega, by rw [el]; exact hrs⟩ (.tup (SqT.of (off_at tp upd_same)) (rows_dp (Paired.mapP al fun v r ⟨c, e, c1, c2, c3⟩ => ⟨c, e, c1, c2, KT.at c1 c3⟩))) (by omega) (D2.put ht) ((K1.trans K2).trans KT)
end

/-! ### kinds of values, by the data -/
def wholeD (lo hi : Int) : PyData → Bool
  | .int i => decide (lo ≤ i) && decide (i ≤ hi)
  | _ => false
theorem whole_int {lo hi : Int} {d : PyData} (h : wholeD lo hi d = true) : ∃ i, d = .int i ∧ lo ≤ i ∧ i ≤ hi := by
  cases d <;> first | (exact ⟨_, rfl, by simpa [wholeD] using h⟩) | (exfalso; revert h; simp [wholeD])
theorem isA_whole {lo hi : Int} {d : PyData} (h : (isA "bool" d || !isA "int" d) = true) : wholeD lo hi d = false := by
  cases d <;> first | rfl | (exfalso; revert h; simp [isA, isS, kindD])
def sp_whole (K : PySem.W.Frag) : Sp := fun vs H Q _ => ∃ (v : V) (d : PyData) (lo hi : Int), vs = [v, .int lo, .int hi] ∧ Dp K H v d ∧ Q (.bl (wholeD lo hi d)) H
theorem isA_int_of {d : PyData} (h1 : ¬ isA "bool" d = true) (h2 : ¬ (!isA "int" d) = true) : ∃ i, d = .int i := by
  cases d <;> first | exact ⟨_, rfl⟩ | (exfalso; revert h1 h2; simp [isA, isS, kindD])
section
variable {P : Program} {w : World} {K : PySem.W.Frag} {mg : Str → Option Value} {base : Heap}
theorem ok_whole (T : Txt K mg) : FnOk P w K mg base CX0 1 T.a_whole T.d_whole ["value", "low", "high"] (sp_whole K) := by
  refine T.F_whole.ok sc_whole (fun vs H Q E h => ?_) (fun cdv A outer s H vs Q E hr h => ?_)
  · obtain ⟨v, d, lo, hi, rfl, _⟩ := h
    rfl
  · obtain ⟨v, d, lo, hi, rfl, hd, k⟩ := h
    refine ⟨_, (pss_cons (ps_if (PW.pt (pw_or (pt_val (pe_callB (id := "isinstance") (call_isD "bool" (by decide)) (by rfl) T.m_isinstance (by decide +kernel) (pa_cons (pv 0) (pa_cons (pe_bltn (v := .ty "bool") (by rfl) T.m_bool (by decide +kernel) rfl) pa_nil)))) (pw_or1 (pt_not (pt_val (pe_callB (id := "isinstance") (call_isD "int" (by decide)) (by rfl) T.m_isinstance (by decide +kernel) (pa_cons (pv 0) (pa_cons (pe_bltn (v := .ty "int") (by rfl) T.m_int (by decide +kernel) rfl) pa_nil))))))))
        (pss_one (ps_ret pe_bl))
        pss_nil)
      (pss_one (ps_ret (pe_chain op_le op_le (pv 1) (pv 0) (pv 2))))), ?_⟩
    refine ⟨_, rfl, v, d, rfl, hd, _, rfl, ite2 (fun hb => ?_) (fun hb => ?_)⟩
    · rw [isA_whole (by rw [hb]; rfl)] at k
      exact iteT k
    · refine ⟨_, rfl, v, d, rfl, hd, _, rfl, ite2 (fun hi' => ?_) (fun hi' => ?_)⟩
      · rw [isA_whole (by rw [hi', Bool.or_true])] at k
        exact k
      · obtain ⟨i, rfl⟩ := isA_int_of hb hi'
        cases hd
        refine ⟨_, rfl, _, rfl, lo, i, rfl, rfl, _, rfl, ?_⟩
        by_cases hl : lo ≤ i
        · rw [decide_eq_true hl]
          refine iteT ⟨_, rfl, i, hi, rfl, rfl, ?_⟩
          have e : wholeD lo hi (.int i) = decide (i ≤ hi) := by simp only [wholeD, decide_eq_true hl, Bool.true_and]
          rw [e] at k
          exact k
        · rw [decide_eq_false hl]
          refine iteF ?_
          have e : wholeD lo hi (.int i) = false := by simp only [wholeD, decide_eq_false hl, Bool.false_and]
          rw [e] at k
          exact k
end

/-! ### tuples of just so many -/
def tupD (n : Int) : PyData → Bool
  | .tuple ds => decide ((ds.length : Int) = n)
  | _ => false
theorem isA_tupD {d : PyData} (n : Int) (h : isA "tuple" d = false) : tupD n d = false := by
  cases d <;> first | rfl | (exfalso; revert h; simp [isA, isS, kindD])
def sp_tupleof (K : PySem.W.Frag) : Sp := fun vs H Q _ => ∃ (v : V) (d : PyData) (n : Int), vs = [v, .int n] ∧ Dp K H v d ∧ Q (.bl (tupD n d)) H
section
variable {P : Program} {w : World} {K : PySem.W.Frag} {mg : Str → Option Value} {base : Heap}
theorem ok_tupleof (T : Txt K mg) : FnOk P w K mg base CX0 1 T.a_tuple_of T.d_tuple_of ["value", "many"] (sp_tupleof K) := by
  refine T.F_tuple_of.ok sc_tuple_of (fun vs H Q E h => ?_) (fun cdv A outer s H vs Q E hr h => ?_)
  · obtain ⟨v, d, n, rfl, _⟩ := h
    rfl
  · obtain ⟨v, d, n, rfl, hd, k⟩ := h
    refine ⟨_, (pss_one (ps_ret (pe_and (pe_callB (id := "isinstance") (call_isD "tuple" (by decide)) (by rfl) T.m_isinstance (by decide +kernel) (pa_cons (pv 0) (pa_cons (pe_bltn (v := .ty "tuple") (by rfl) T.m_tuple (by decide +kernel) rfl) pa_nil))) (pe_one (pe_cmpR op_eq (pe_callB (id := "len") call_len_seq (by rfl) T.m_len (by decide +kernel) (pa_cons (pv 0) pa_nil)) (pv 1) (nomark _)))))), ?_⟩
    refine ⟨_, rfl, v, d, rfl, hd, _, rfl, ?_⟩
    cases ht : isA "tuple" d with
    | false =>
      rw [isA_tupD n ht] at k
      exact iteF k
    | true =>
      obtain ⟨ds, rfl⟩ := isA_tup ht
      cases hd with
      | tup h1 h2 =>
        rename_i a xs
        have hl := dpAll_len h2
        refine iteT ⟨_, rfl, a, xs, rfl, .inr h1, _, rfl, rfl, ?_⟩
        have e : decide (V.int (xs.length : Int) = V.int n) = tupD n (.tuple ds) := by
          simp only [tupD, hl, V.int.injEq]
        rw [e]
        exact k
end

/-! ### what is a house: the program's word and the law's -/
def houseD : PyData → Bool
  | .tuple [a, b, c] => wholeD 2 4 a && (wholeD 1 6 b && (wholeD 0 3 c && match a, c with | .int s, .int g => decide (s ^ (g + 1).toNat ≤ 81) | _, _ => false))
  | _ => false
theorem houseD_short {d : PyData} (h : tupD 3 d = false) : houseD d = false := by
  cases d with
  | tuple ds =>
    match ds with
    | [] => rfl
    | [_] => rfl
    | [_, _] => rfl
    | [_, _, _] => exact absurd h (by simp [tupD])
    | _ :: _ :: _ :: _ :: _ => rfl
  | _ => rfl
theorem tupD_three {d : PyData} (h : tupD 3 d = true) : ∃ a b c, d = .tuple [a, b, c] := by
  cases d with
  | tuple ds =>
    match ds with
    | [] => exact absurd h (by simp [tupD])
    | [_] => exact absurd h (by simp [tupD])
    | [_, _] => exact absurd h (by simp [tupD])
    | [a, b, c] => exact ⟨a, b, c, rfl⟩
    | _ :: _ :: _ :: _ :: r => exact absurd h (by simp [tupD]; omega)
  | _ => exact absurd h (by simp [tupD])
def sp_ishouse (K : PySem.W.Frag) : Sp := fun vs H Q _ => ∃ (v : V) (d : PyData), vs = [v] ∧ Dp K H v d ∧ Q (.bl (houseD d)) H
section
variable {P : Program} {w : World} {K : PySem.W.Frag} {mg : Str → Option Value} {base : Heap}
theorem ok_rows (T : Txt K mg) : FnOk P w K mg base CX0 1 T.a_rows_of_heads T.d_rows_of_heads ["servers", "lag"] sp_power := by
  refine T.F_rows_of_heads.ok sc_rows_of_heads (fun vs H Q E h => ?_) (fun cdv A outer s H vs Q E hr h => ?_)
  · obtain ⟨s, g, rfl, _⟩ := h
    rfl
  · obtain ⟨z, g, rfl, s0, s1, g0, g1, k⟩ := h
    refine ⟨_, (pss_cons (ps_set (i := 2) sc_rows_of_heads.nd rfl (Or.inl rfl) pe_int)
      (pss_cons (ps_for PassesOwn.never rfl (pi_range1 (by rfl) T.m_range (pa_cons (pe_op op_add (pv 1) pe_int) pa_nil)) (pg_name (i := 3) sc_rows_of_heads.nd rfl (Or.inl rfl))
        (pss_one (ps_set (i := 2) sc_rows_of_heads.nd rfl (Or.inl rfl) (pe_op op_mul (pv 2) (pv 0)))))
      (pss_one (ps_ret (pv 2))))), ?_⟩
    refine ⟨_, rfl, _, _, rfl, rfl, _, rfl, by omega, by omega, for_range (lo := 0) (n := (g + 1).toNat) (fun i σ H' => H' = H ∧ ∃ y, σ = [some (.int z), some (.int g), some (.int (z ^ i)), y]) ⟨rfl, none, by rw [Int.pow_zero]; rfl⟩ ?_ ?_⟩
    · rintro i σ H' hi ⟨rfl, y, rfl⟩
      refine ⟨_, rfl, _, rfl, _, _, rfl, rfl, .inr ⟨by omega, by omega⟩, rfl, some (.int (0 + (i : Int))), ?_⟩
      rw [Int.pow_succ]
      rfl
    · rintro σ H' ⟨rfl, y, rfl⟩
      exact ⟨_, rfl, k⟩
theorem ok_ishouse (T : Txt K mg) : FnOk P w K mg base CX0 2 T.a_is_house T.d_is_house ["value"] (sp_ishouse K) := by
  have G_whole : FnOk P w K mg base CX0 1 T.a_whole T.d_whole ["value", "low", "high"] (sp_whole K) := ok_whole T
  have G_tuple_of : FnOk P w K mg base CX0 1 T.a_tuple_of T.d_tuple_of ["value", "many"] (sp_tupleof K) := ok_tupleof T
  have G_rows_of_heads : FnOk P w K mg base CX0 1 T.a_rows_of_heads T.d_rows_of_heads ["servers", "lag"] sp_power := ok_rows T
  refine T.F_is_house.ok sc_is_house (fun vs H Q E h => ?_) (fun cdv A outer s H vs Q E hr h => ?_)
  · obtain ⟨v, d, rfl, _⟩ := h
    rfl
  · obtain ⟨v, d, rfl, hd, k⟩ := h
    refine ⟨_, (pss_cons (ps_if (pt_not (pt_val (pe_call G_tuple_of (hr.mono (by omega)) (by rfl) T.g_tuple_of T.F_tuple_of.kp T.b_tuple_of .nil pass0 (pa_cons (pv 0) (pa_cons pe_int pa_nil)))))
        (pss_one (ps_ret pe_bl))
        pss_nil)
      (pss_cons (ps_asg (pv 0) (pg_tup (by rfl) (pgs_cons (pg_name (i := 1) sc_is_house.nd rfl (Or.inl rfl)) (pgs_cons (pg_name (i := 2) sc_is_house.nd rfl (Or.inl rfl)) (pgs_cons (pg_name (i := 3) sc_is_house.nd rfl (Or.inl rfl)) pgs_nil)))))
      (pss_cons (ps_if (PW.pt (pw_or (pt_not (pt_val (pe_call G_whole (hr.mono (by omega)) (by rfl) T.g_whole T.F_whole.kp T.b_whole .nil pass0 (pa_cons (pv 1) (pa_cons pe_int (pa_cons pe_int pa_nil)))))) (pw_or (pt_not (pt_val (pe_call G_whole (hr.mono (by omega)) (by rfl) T.g_whole T.F_whole.kp T.b_whole .nil pass0 (pa_cons (pv 2) (pa_cons pe_int (pa_cons pe_int pa_nil)))))) (pw_or1 (pt_not (pt_val (pe_call G_whole (hr.mono (by omega)) (by rfl) T.g_whole T.F_whole.kp T.b_whole .nil pass0 (pa_cons (pv 3) (pa_cons pe_int (pa_cons pe_int pa_nil))))))))))
        (pss_one (ps_ret pe_bl))
        pss_nil)
      (pss_one (ps_ret (pe_cmpR op_le (pe_call G_rows_of_heads (hr.mono (by omega)) (by rfl) T.g_rows_of_heads T.F_rows_of_heads.kp T.b_rows_of_heads .nil pass0 (pa_cons (pv 1) (pa_cons (pv 3) pa_nil))) (pe_glob (v := .int (81)) rfl T.g_MOST_HEADS ⟨_, rfl⟩) (nomark _))))))), ?_⟩
    refine ⟨_, rfl, v, d, 3, rfl, hd, _, rfl, ?_⟩
    cases h3 : tupD 3 d with
    | false =>
      rw [houseD_short h3] at k
      exact iteT k
    | true =>
      obtain ⟨a, b, c, rfl⟩ := tupD_three h3
      cases hd with
      | tup h1 h2 =>
        cases h2 with
        | cons ha h2 =>
        cases h2 with
        | cons hb h2 =>
        cases h2 with
        | cons hc h2 =>
        cases h2
        refine iteF ⟨_, rfl, _, _, rfl, h1, rfl, _, _, rfl, _, _, rfl, _, _, rfl, rfl, ?_⟩
        refine ⟨_, rfl, _, a, 2, 4, rfl, ha, _, rfl, ?_⟩
        cases ea : wholeD 2 4 a with
        | false =>
          have e : houseD (.tuple [a, b, c]) = false := by simp only [houseD, ea, Bool.false_and]
          rw [e] at k
          exact iteT (iteT k)
        | true =>
        refine iteF ⟨_, rfl, _, b, 1, 6, rfl, hb, _, rfl, ?_⟩
        cases eb : wholeD 1 6 b with
        | false =>
          have e : houseD (.tuple [a, b, c]) = false := by simp only [houseD, eb, Bool.false_and, Bool.and_false]
          rw [e] at k
          exact iteT (iteT k)
        | true =>
        refine iteF ⟨_, rfl, _, c, 0, 3, rfl, hc, _, rfl, ?_⟩
        cases ec : wholeD 0 3 c with
        | false =>
          have e : houseD (.tuple [a, b, c]) = false := by simp only [houseD, ec, Bool.false_and, Bool.and_false]
          rw [e] at k
          exact iteT k
        | true =>
        obtain ⟨x, rfl, x1, x2⟩ := whole_int ea
        obtain ⟨y, rfl, y1, y2⟩ := whole_int eb
        obtain ⟨z, rfl, z1, z2⟩ := whole_int ec
        cases ha
        cases hb
        cases hc
        have e : houseD (.tuple [.int x, .int y, .int z]) = decide (x ^ (z + 1).toNat ≤ 81) := by simp only [houseD, ea, eb, ec, Bool.true_and]
        rw [e] at k
        exact iteF ⟨_, rfl, _, rfl, x, z, rfl, by omega, by omega, by omega, by omega, _, _, rfl, rfl, k⟩
end

/-! ### what every law's own def needs -/
theorem room_law (e : Env) : Room 50 (callerA.deeper e) := (show Room 51 callerA from ⟨rfl, by decide, by decide⟩).deeper e
theorem show_bool (b : Bool) : PyData.showable (.bool b) = true ∧ PyData.depth (.bool b) ≤ 50 ∧ (PyData.shown (.bool b)).length ≤ sizeLine := by
  refine ⟨by simp only [PyData.showable], by simp only [PyData.depth]; decide, ?_⟩
  cases b <;> simp only [PyData.shown] <;> exact Nat.le_trans (by decide : _ ≤ 5) (by decide)
theorem pow_pos_int {s : Int} (h : 0 < s) : ∀ n : Nat, 0 < s ^ n
  | 0 => by rw [Int.pow_zero]; decide
  | n + 1 => by rw [Int.pow_succ]; exact Int.mul_pos (pow_pos_int h n) h
theorem nice_int {e : Nat} {i : Int} (he : 10 ≤ e) (h : i.natAbs ≤ 1000) : nice e (.int i) = true := by
  have p : 2 ^ 10 ≤ 2 ^ e := Nat.pow_le_pow_right (by decide) he
  simp only [nice, decide_eq_true_eq]
  omega
theorem nice_three {e : Nat} {x y z : Int} (he : 10 ≤ e) (hx : x.natAbs ≤ 1000) (hy : y.natAbs ≤ 1000) (hz : z.natAbs ≤ 1000) : nice e (.tuple [.int x, .int y, .int z]) = true := by
  simp only [nice, niceAll, Bool.and_eq_true]
  exact ⟨by simpa only [nice] using nice_int he hx, by simpa only [nice] using nice_int he hy, by simpa only [nice] using nice_int he hz, trivial⟩
theorem tiny_three {x y z : Int} (hx : x.natAbs ≤ 1000) (hy : y.natAbs ≤ 1000) (hz : z.natAbs ≤ 1000) : Tiny 140 4 1 (.tuple [.int x, .int y, .int z]) :=
  ⟨nice_three (by decide) hx hy hz, by simp [wt, wtAll], by simp [PyData.depth, PyData.depthAll]⟩
theorem tiny_int {x : Int} (hx : x.natAbs ≤ 1000) : Tiny 140 1 0 (.int x) := ⟨nice_int (by decide) hx, by simp [wt], by simp [PyData.depth]⟩
theorem ne_self (x : V) : (!decide (x = x)) = false := by
  rw [decide_eq_true rfl]
  rfl

def sp_fit (K : PySem.W.Frag) : Sp := fun vs H Q _ => ∃ (h : V) (s r g : Int), vs = [h] ∧ Dp K H h (houseT s r g) ∧ HouseOf 81 s r g ∧ ∀ x : Int, 1 ≤ x → x ≤ 6 → Q (.int x) H
section
variable {P : Program} {w : World} {K : PySem.W.Frag} {mg : Str → Option Value} {base : Heap}
theorem ok_fit (T : Txt K mg) : FnOk P w K mg base CX0 2 T.a_rows_that_fit T.d_rows_that_fit ["_law_house_here"] (sp_fit K) := by
  have G_power : FnOk P w K mg base CX0 1 T.a_power T.d_power ["_law_servers", "_law_lag"] sp_power := ok_power T
  refine T.F_rows_that_fit.ok sc_rows_that_fit (fun vs H Q E h => ?_) (fun cdv A outer s H vs Q E hr h => ?_)
  · obtain ⟨_, _, _, _, rfl, _⟩ := h
    rfl
  · obtain ⟨h, z, r, g, rfl, hh, ⟨z2, z4, r1, r6, g0, g3, hp⟩, k⟩ := h
    refine ⟨_, (pss_one (ps_ret (pe_callB (id := "max") (call_max2 rfl) (by rfl) T.m_max (by decide +kernel) (pa_cons pe_int (pa_cons (pe_callB (id := "min") (call_min2 rfl) (by rfl) T.m_min (by decide +kernel) (pa_cons pe_int (pa_cons (pe_op op_fdivN pe_int (pe_call G_power (hr.mono (by omega)) (by rfl) T.g_power T.F_power.kp T.b_power .nil pass0 (pa_cons (pe_ix ix_tup (pv 0) pe_int (fun _ _ => rfl)) (pa_cons (pe_ix ix_tup (pv 0) pe_int (fun _ _ => rfl)) pa_nil)))) pa_nil))) pa_nil))))), ?_⟩
    obtain ⟨a, rfl, sa⟩ := dp_three hh
    have pp := pow_pos_int (show 0 < z by omega) (g + 1).toNat
    refine ⟨_, rfl, a, _, 0, _, rfl, rfl, sa, rfl, _, rfl, a, _, 2, _, rfl, rfl, sa, rfl, z, g, rfl, by omega, by omega, by omega, by omega, _, _, rfl, rfl, ⟨by omega, by omega⟩, _, _, rfl, _, _, rfl, ?_⟩
    refine k _ ?_ ?_
    · split <;> omega
    · split <;> (split <;> omega)
end

/-! ### more of small data, and of what is kept -/
theorem Deck.sqt {K : PySem.W.Frag} {H J : Hp} {p a : Addr} {n : Nat} {xs : List V} (D : Deck K H p n) (k : Keep p H J) (h : SqT K H a xs) : SqT K J a xs := by
  obtain ⟨_, _, _, _, hp, _⟩ := D
  exact sameT off_in (sameT k.s (tup_off hp h))
theorem Acc.tupI {K : PySem.W.Frag} {p t : Addr} {n : Nat} {vs : List V} {ds : List PyData} {H0 J : Hp} {xs : List V} {ms : List Int} (A : Acc K p n H0 J vs ds) (c : SqT K J t xs) (e : xs = ms.map V.int) : Acc K p n H0 J (vs ++ [.ref t]) (ds ++ [.tuple (ms.map PyData.int)]) := by
  subst e
  exact A.add (dt_of A.dk c (ints_dp ms))
theorem tiny_ints {ms : List Int} {L : Nat} (h : ∀ x ∈ ms, x.natAbs ≤ 1000) (hl : ms.length < L) : Tiny 143 L 20 (.tuple (ms.map PyData.int)) ∧ Tiny 143 L 20 (.list (ms.map PyData.int)) := by
  have w : wtAll (ms.map PyData.int) = ms.length := by
    clear h hl
    induction ms with
    | nil => rfl
    | cons x r ih => simp only [List.map_cons, wtAll, wt, ih, List.length_cons]; omega
  have q := tiny_tup (e := 143) (W := L) (m := 0) (ds := ms.map PyData.int) (fun d hd => by
    obtain ⟨x, hx, rfl⟩ := List.mem_map.mp hd
    exact ⟨nice_int (by decide) (h x hx), by simp [PyData.depth]⟩) (by rw [w]; exact hl)
  exact ⟨q.1.mono (Nat.le_refl _) (Nat.le_refl _) (by decide), q.2.mono (Nat.le_refl _) (Nat.le_refl _) (by decide)⟩
theorem tiny_pair {z r g : Int} {d : PyData} (hz : z.natAbs ≤ 1000) (hr : r.natAbs ≤ 1000) (hg : g.natAbs ≤ 1000) (t : Tiny 143 4000 20 d) : Tiny 143 4100 21 (.list [.tuple [.int z, .int r, .int g], d]) := by
  have t3 := tiny_three hz hr hg
  have a := t3.we
  have b := t.we
  have c := t3.de
  have e := t.de
  refine ⟨?_, by simp only [wt, wtAll] at *; omega, by simp only [PyData.depth, PyData.depthAll] at *; omega⟩
  simp only [nice, niceAll, Bool.and_true, Bool.and_eq_true]
  exact ⟨by simpa only [nice, niceAll, Bool.and_true, Bool.and_eq_true] using nice_three (e := 143) (by decide) hz hr hg, t.ni⟩
theorem len_tiny {d : PyData} (t : Tiny 143 4000 20 d) : ∀ ds, d = .tuple ds → ds.length ≤ 4000 := fun ds e => by
  have a := t.we
  rw [e] at a
  simp only [wt] at a
  have := wtAll_len ds
  omega
theorem tiny_bools (bs : List Bool) (hl : bs.length < 4000) : Tiny 143 4000 20 (.tuple (bs.map PyData.bool)) := by
  have w : wtAll (bs.map PyData.bool) = bs.length := by
    clear hl
    induction bs with
    | nil => rfl
    | cons x r ih => simp only [List.map_cons, wtAll, wt, ih, List.length_cons]; omega
  have q := tiny_tup (e := 143) (W := 4000) (m := 0) (ds := bs.map PyData.bool) (fun d hd => by
    obtain ⟨x, hx, rfl⟩ := List.mem_map.mp hd
    exact ⟨by simp [nice], by simp [PyData.depth]⟩) (by rw [w]; exact hl)
  exact q.1.mono (Nat.le_refl _) (Nat.le_refl _) (by decide)
theorem Deck.of_grow {K : PySem.W.Frag} {H J : Hp} {p : Addr} {n : Nat} (D : Deck K H p n) (e : Grow H J) : Deck K J p n := by
  obtain ⟨l, ns, c, r, hp, lp, hl, z⟩ := D
  exact ⟨l, ns, c, r, e.at hp, lp, e.seq hl, z⟩
theorem sqT_upd {K : PySem.W.Frag} {J : Hp} {q L : Addr} {xs ys : List V} {o : HO} (h : SqT K J q xs) (hl : J L = some (.lst ys)) : SqT K (upd J L o) q xs := by
  rcases h with (h | ⟨u, h⟩) | h
  · exact Or.inl (Or.inl (by rw [upd_ne (ne_of h hl (by intro z; cases z))]; exact h))
  · exact Or.inl (Or.inr ⟨u, by rw [upd_ne (ne_of h hl (by intro z; cases z))]; exact h⟩)
  · exact Or.inr h
theorem bools_dp {K : PySem.W.Frag} {H : Hp} : ∀ bs : List Bool, DpAll K H (bs.map V.bl) (bs.map PyData.bool)
  | [] => .nil
  | b :: bs => .cons (.bl b) (bools_dp bs)
def isOne (x : Int) : Bool := decide (V.int x = V.int 1)
theorem cut_last {xs : List V} {v : V} (h : xs.getLast? = some v) : cutV xs (some (-1)) none = [v] := by
  have h0 : 0 < xs.length := by
    cases xs with
    | nil => cases h
    | cons _ _ => simp
  have e : HT.sIx xs.length 0 (some (-1)) = xs.length - 1 := by
    show (if (-1 : Int) < 0 then ((-1 : Int) + (xs.length : Int)).toNat else min (-1 : Int).toNat xs.length) = xs.length - 1
    rw [if_pos (by decide)]
    omega
  unfold cutV
  rw [e, HT.sIx_none, show xs.length - (xs.length - 1) = 1 by omega]
  rw [List.getLast?_eq_getElem?] at h
  obtain ⟨hl, hv⟩ := List.getElem?_eq_some_iff.mp h
  rw [← List.getElem_cons_drop hl, hv]
  rfl

/-! ### texts of tables, as data -/
open TL (tl len_tl tl_append joinL tl_join join_eq tl_num numL numL_len numL_ne numL_free split_join int_num spl_join)
def dg (i : Int) : Str := Str.ofString (toString i)
def lineT (ws : List Str) : Str := Txt.join " " ws ++ "\n"
def textT (ls : List (List Str)) : Str := Txt.join "" (ls.map lineT)
def houseW (z r g : Int) : List Str := ["house", dg z, dg r, dg g]
def rowW (r : Row) : List Str := [r.1, dg r.2.1, dg r.2.2]
def textH (z r g : Int) (rs : List Row) : Str := textT (houseW z r g :: rs.map rowW)
theorem small5k {n : Nat} (h : n ≤ 5000) : n < sizeLine := Nat.lt_of_le_of_lt h (by decide)
theorem write_sameW {q : Addr} {G J : Hp} {o : HO} (k : Same G J) (h : G q = none) : Same G (upd J q o) := fun b u e => by
  rw [upd_ne (ne_of_none e h)]
  exact k b u e
/-- short words -/
def Short (ws : List Str) : Prop := ws.length ≤ 10 ∧ ∀ w ∈ ws, w.length ≤ 10
theorem len_append (x y : Str) : (x ++ y).length = x.length + y.length := by rw [len_tl, tl_append, List.length_append, ← len_tl, ← len_tl]
theorem joinL_len (S : List Nat) : ∀ (ps : List (List Nat)), (joinL S ps).length ≤ (ps.map List.length).sum + ps.length * S.length
  | [] => Nat.zero_le _
  | [p] => by simp [joinL]
  | p :: q :: r => by
    have ih := joinL_len S (q :: r)
    show (p ++ (S ++ joinL S (q :: r))).length ≤ _
    rw [List.length_append, List.length_append, List.map_cons, List.sum_cons, List.length_cons, Nat.succ_mul]
    omega
theorem join_len (y : Str) (ws : List Str) : (Txt.join y ws).length ≤ (ws.map (·.length)).sum + ws.length * y.length := by
  have q := joinL_len (tl y) (ws.map tl)
  rw [join_eq, len_tl, tl_join]
  have e : (ws.map tl).map List.length = ws.map (·.length) := by
    rw [List.map_map]
    refine List.map_congr_left fun w _ => ?_
    exact (len_tl w).symm
  rw [e, List.length_map, ← len_tl y] at q
  exact q
theorem sum_le {α : Type} {f : α → Nat} {b : Nat} : ∀ {l : List α}, (∀ x ∈ l, f x ≤ b) → (l.map f).sum ≤ l.length * b
  | [], _ => Nat.zero_le _
  | x :: l, h => by
    have a := h x List.mem_cons_self
    have c := sum_le (l := l) fun y hy => h y (List.mem_cons_of_mem _ hy)
    rw [List.map_cons, List.sum_cons, List.length_cons, Nat.succ_mul]
    omega
theorem lineT_len {ws : List Str} (h : Short ws) : (ws.map (·.length)).sum + ws.length * (" " : Str).length ≤ 200 ∧ (Txt.join " " ws).length ≤ 200 ∧ (lineT ws).length ≤ 201 := by
  have a := sum_le (f := fun w : Str => w.length) h.2
  have b := join_len " " ws
  have e : (" " : Str).length = 1 := rfl
  have e2 : ("\n" : Str).length = 1 := rfl
  have c := h.1
  rw [e] at b ⊢
  have d : (ws.map (·.length)).sum ≤ 100 := Nat.le_trans a (by omega)
  refine ⟨by omega, by omega, ?_⟩
  unfold lineT
  rw [len_append, e2]
  omega
theorem dg_len {i : Int} (h0 : 0 ≤ i) (h1 : i < 1000) : (dg i).length ≤ 10 := by
  obtain ⟨n, rfl⟩ : ∃ n : Nat, i = (n : Int) := ⟨i.toNat, (Int.toNat_of_nonneg h0).symm⟩
  unfold dg
  rw [len_tl, tl_num]
  exact Nat.le_trans (numL_len (k := 3) (by decide) (by omega)) (by decide)
/-- the value x is such a word -/
def WordOf (x : V) (w : Str) : Prop := x = .str w ∨ ∃ i : Int, x = .int i ∧ i.natAbs ≤ 1000 ∧ w = dg i
theorem paired_at {α β : Type} {R : α → β → Prop} : ∀ {xs : List α} {ws : List β} {i : Nat} {x : α}, Paired R xs ws → xs[i]? = some x → ∃ w, ws[i]? = some w ∧ R x w
  | [], _, _, _, .nil, h => by cases h
  | y :: ys, v :: vs, 0, x, .cons a _, h => by cases h; exact ⟨v, rfl, a⟩
  | y :: ys, v :: vs, i + 1, x, .cons _ t, h => by
    obtain ⟨w, e, r⟩ := paired_at (xs := ys) (ws := vs) (i := i) t h
    exact ⟨w, e, r⟩
theorem paired_len {α β : Type} {R : α → β → Prop} {xs : List α} {ws : List β} (h : Paired R xs ws) : xs.length = ws.length := by
  induction h with
  | nil => rfl
  | cons _ _ ih => rw [List.length_cons, List.length_cons, ih]
theorem log_small {i : Int} (h : i.natAbs ≤ 1000) : i.natAbs.log2 < 1920 := by
  cases e : i.natAbs with
  | zero => decide
  | succ n =>
    have : (n + 1).log2 < 10 := (Nat.log2_lt (by omega)).mpr (by omega)
    omega

/-! ### the words of a house, of a row -/
theorem short_house {z r g : Int} (h : HouseOf 81 z r g) : Short (houseW z r g) := by
  obtain ⟨z2, z4, r1, r6, g0, g3, _⟩ := h
  refine ⟨by simp [houseW], fun w hw => ?_⟩
  simp only [houseW, List.mem_cons, List.not_mem_nil, or_false] at hw
  rcases hw with e | e | e | e <;> rw [e]
  · decide
  · exact dg_len (by omega) (by omega)
  · exact dg_len (by omega) (by omega)
  · exact dg_len (by omega) (by omega)
theorem short_row {m : Int} {r : Row} (hm : m ≤ 100) (h : RowOf m r) : Short (rowW r) := by
  obtain ⟨hd, a0, a1, b0, b1⟩ := h
  refine ⟨by simp [rowW], fun w hw => ?_⟩
  simp only [rowW, List.mem_cons, List.not_mem_nil, or_false] at hw
  rcases hw with e | e | e <;> rw [e]
  · rcases hd with e | e | e <;> (rw [e]; decide)
  · exact dg_len (by omega) (by omega)
  · exact dg_len (by omega) (by omega)
theorem words_house {z r g : Int} (h : HouseOf 81 z r g) : Paired WordOf [.str "house", .int z, .int r, .int g] (houseW z r g) := by
  obtain ⟨z2, z4, r1, r6, g0, g3, _⟩ := h
  exact .cons (.inl rfl) (.cons (.inr ⟨z, rfl, by omega, rfl⟩) (.cons (.inr ⟨r, rfl, by omega, rfl⟩) (.cons (.inr ⟨g, rfl, by omega, rfl⟩) .nil)))
theorem words_row {m : Int} {r : Row} (hm : m ≤ 100) (h : RowOf m r) : Paired WordOf [.str r.1, .int r.2.1, .int r.2.2] (rowW r) := by
  obtain ⟨hd, a0, a1, b0, b1⟩ := h
  exact .cons (.inl rfl) (.cons (.inr ⟨_, rfl, by omega, rfl⟩) (.cons (.inr ⟨_, rfl, by omega, rfl⟩) .nil))

/-! ### the law's own texts -/
/-- words that are no longer than need be -/
def Mild (ws : List Str) : Prop := ws.length ≤ 1000 ∧ (ws.map (·.length)).sum + ws.length ≤ 100000
theorem Short.mild {ws : List Str} (h : Short ws) : Mild ws := by
  obtain ⟨a, _⟩ := lineT_len h
  have e : (" " : Str).length = 1 := rfl
  rw [e, Nat.mul_one] at a
  have b := h.1
  exact ⟨by omega, by omega⟩
theorem Mild.line {ws : List Str} (h : Mild ws) : (Txt.join " " ws).length ≤ 100000 ∧ (lineT ws).length ≤ 100001 := by
  have b := join_len " " ws
  have e : (" " : Str).length = 1 := rfl
  have e2 : ("\n" : Str).length = 1 := rfl
  have c := h.2
  rw [e, Nat.mul_one] at b
  refine ⟨by omega, ?_⟩
  unfold lineT
  rw [len_append, e2]
  omega
/-- v is a list of these words -/
def LineAt (K : PySem.W.Frag) (J : Hp) (v : V) (ws : List Str) : Prop := ∃ q : Addr, v = .ref q ∧ SqL K J q (ws.map V.str)
theorem sameL {K : PySem.W.Frag} {H J : Hp} {a : Addr} {xs : List V} (e : Same H J) (h : SqL K H a xs) : SqL K J a xs := by
  rcases h with (h | ⟨o, h⟩) | h
  · exact Or.inl (Or.inl (e _ _ h))
  · exact Or.inl (Or.inr ⟨o, e _ _ h⟩)
  · exact Or.inr h
theorem lines_same {K : PySem.W.Frag} {H J : Hp} (S : Same H J) {vs : List V} {ls : List (List Str)} (h : Paired (LineAt K H) vs ls) : Paired (LineAt K J) vs ls := Paired.mapP h fun _ _ ⟨q, e, a⟩ => ⟨q, e, sameL S a⟩

def sp_ltext (K : PySem.W.Frag) : Sp := fun vs H Q _ => ∃ (a : Addr) (xs : List V) (ls : List (List Str)), vs = [.ref a] ∧ SqL K H a xs ∧ Paired (LineAt K H) xs ls ∧ ls.length ≤ 100 ∧ (∀ ws ∈ ls, Mild ws) ∧ ∀ J, Same H J → Q (.str (textT ls)) J
def sp_lwords (K : PySem.W.Frag) : Sp := fun vs H Q _ => ∃ (p : Addr) (h t : V) (z r g : Int) (rs : List Row), vs = [.ref p] ∧ SqT K H p [h, t] ∧ Dp K H h (houseT z r g) ∧ HouseOf 81 z r g ∧ Dp K H t (tableD rs) ∧ rs.length ≤ 6 ∧ (∀ x ∈ rs, RowOf 100 x) ∧
  ∀ (a : Addr) (xs : List V) (J : Hp), SqL K J a xs → Paired (LineAt K J) xs (houseW z r g :: rs.map rowW) → Same H J → Q (.ref a) J
def sp_lwordsX (K : PySem.W.Frag) : Sp := fun vs H Q _ => ∃ (p : Addr) (h t : V) (z r g : Int) (rs : List Row), vs = [.ref p] ∧ SqT K H p [h, t] ∧ Dp K H h (houseT z r g) ∧ HouseOf 81 z r g ∧ Dp K H t (tableD rs) ∧ rs.length ≤ 6 ∧ (∀ x ∈ rs, RowOf 100 x) ∧
  ∀ (a : Addr) (xs : List V) (J : Hp), H a = none → J a = some (.lst xs) → Paired (fun (v : V) (ws : List Str) => ∃ q, v = .ref q ∧ H q = none ∧ J q = some (.lst (ws.map V.str))) xs (houseW z r g :: rs.map rowW) → Same H J → Q (.ref a) J
theorem same_fresh {H J : Hp} {q : Addr} (S : Same H J) (h : J q = none) : H q = none := by
  cases e : H q with
  | none => rfl
  | some o =>
    have := S _ _ e
    rw [h] at this
    cases this
section
variable {P : Program} {w : World} {K : PySem.W.Frag} {mg : Str → Option Value} {base : Heap}
theorem ok_ltext (T : Txt K mg) : FnOk P w K mg base CX0 2 T.a_text T.d_text ["_law_rows"] (sp_ltext K) := by
  refine T.F_text.ok sc_text (fun vs H Q E h => ?_) (fun cdv A outer s H vs Q E hr h => ?_)
  · obtain ⟨a, xs, ls, rfl, _⟩ := h
    rfl
  · obtain ⟨a, xs, ls, rfl, ha, hl, l100, hm, k⟩ := h
    refine ⟨_, (pss_one (ps_ret (pe_join pe_str (pe_lc (own := [("_law_row", 1)]) (g := gName 1) (by rfl) sc_text.nd (pi_list (pv 0)) (blkOk_by (own := [("_law_row", 1)]) (N := ["_law_rows", "_law_row"]) (sc := defScope s_text) (by decide +kernel)) (fun _ _ _ _ _ => (pg_name (i := 1) sc_text.nd rfl (Or.inl rfl))) (fun _ _ _ _ _ => pts_nil) (fun _ _ _ _ _ => (pe_op op_add_str (pe_joinK K rfl pe_str (pv 1)) pe_str)))))), ?_⟩
    refine ⟨⟨_, rfl⟩, _, rfl, a, rfl, ⟨_, ha⟩, fun D hD => ?_⟩
    have ln := paired_len hl
    refine lc_list (K := K) (a := a) (xs := xs) (fun i J => Same H J ∧ J D = some (.lst (((ls.take i).map lineT).map V.str))) ⟨same_new hD, upd_same⟩ (fun i J _ ⟨S, _⟩ => sameL S ha) ?_ ?_
    · rintro i x J hi ⟨S, hJ⟩
      obtain ⟨ws, e1, q, rfl, sq⟩ := paired_at hl hi
      have mm := hm ws (List.mem_of_getElem? e1)
      refine ⟨rfl, ?_⟩
      unfold tYes
      refine iteT ⟨⟨_, rfl⟩, _, rfl, _, q, ws, rfl, rfl, .inl (sameL S sq), ?_, _, _, rfl, rfl, ?_, ?_⟩
      · have e : (" " : Str).length = 1 := rfl
        rw [e, Nat.mul_one]
        exact Nat.le_trans mm.2 (by decide)
      · have e2 : ("\n" : Str).length = 1 := rfl
        rw [e2]
        exact Nat.le_trans (Nat.add_le_add_right mm.line.1 1) (by decide)
      refine ⟨_, hJ, small5k (by simp only [List.length_map, List.length_take]; omega), write_sameW S hD, ?_⟩
      rw [upd_same, List.take_add_one, e1]
      simp only [List.map_append, Option.toList_some, List.map_cons, List.map_nil]
      rfl
    · rintro J ⟨S, hJ⟩
      rw [ln, List.take_length] at hJ
      refine ⟨_, D, ls.map lineT, rfl, rfl, .inl (SqL.of hJ), ?_, k _ S⟩
      have q := sum_le (f := fun x : List Str => (lineT x).length) (b := 100001) (l := ls) fun x hx => (hm x hx).line.2
      have e0 : ("" : Str).length = 0 := rfl
      have e1 : ((ls.map lineT).map (fun x => x.length)) = ls.map fun x => (lineT x).length := by rw [List.map_map]; rfl
      rw [List.length_map, e0, Nat.mul_zero, Nat.add_zero, e1]
      exact Nat.le_trans q (Nat.le_trans (Nat.mul_le_mul_right _ l100) (by decide))
theorem ok_lwordsX (T : Txt K mg) : FnOk P w K mg base CX0 2 T.a_words T.d_words ["_law_pair"] (sp_lwordsX K) := by
  refine T.F_words.ok sc_words (fun vs H Q E h => ?_) (fun cdv A outer s H vs Q E hr h => ?_)
  · obtain ⟨_, _, _, _, _, _, _, rfl, _⟩ := h
    rfl
  · obtain ⟨p, h, t, z, r, g, rs, rfl, hp, hh, hz, ht, l6, hrs, k⟩ := h
    refine ⟨_, (pss_one (ps_ret (pe_op op_cat (pe_lst (pa_cons (pe_op op_cat (pe_lst (pa_cons pe_str pa_nil)) (pe_lc (own := [("_law_one_here", 1)]) (g := gName 1) (by rfl) sc_words.nd (pi_tup (pe_ix ix_tup (pv 0) pe_int (fun _ _ => rfl))) (blkOk_by (own := [("_law_one_here", 1)]) (N := ["_law_pair", "_law_one_here", "_law_row"]) (sc := defScope s_words) (by decide +kernel)) (fun _ _ _ _ _ => (pg_name (i := 1) sc_words.nd rfl (Or.inl rfl))) (fun _ _ _ _ _ => pts_nil) (fun _ _ _ _ _ => (pe_callTy (T := "str") call_strA (by rfl) T.m_str (by decide +kernel) (pa_cons (pv 1) pa_nil))))) pa_nil)) (pe_lc (own := [("_law_row", 2)]) (g := gName 2) (by rfl) sc_words.nd (pi_tup (pe_ix ix_tup (pv 0) pe_int (fun _ _ => rfl))) (blkOk_by (own := [("_law_row", 2)]) (N := ["_law_pair", "_law_one_here", "_law_row"]) (sc := defScope s_words) (by decide +kernel)) (fun _ _ _ _ _ => (pg_name (i := 2) sc_words.nd rfl (Or.inl rfl))) (fun _ _ _ _ _ => pts_nil) (fun _ _ _ _ _ => (pe_lst (pa_cons (pe_ix (ixTK K rfl) (pv 2) pe_int (fun _ _ => rfl)) (pa_cons (pe_callTy (T := "str") call_strA (by rfl) T.m_str (by decide +kernel) (pa_cons (pe_ix (ixTK K rfl) (pv 2) pe_int (fun _ _ => rfl)) pa_nil)) (pa_cons (pe_callTy (T := "str") call_strA (by rfl) T.m_str (by decide +kernel) (pa_cons (pe_ix (ixTK K rfl) (pv 2) pe_int (fun _ _ => rfl)) pa_nil)) pa_nil))))))))), ?_⟩
    obtain ⟨a, rfl, sa⟩ := dp_three hh
    obtain ⟨b, xs, rfl, sb, lb, gb⟩ := dp_table ht
    have pw := words_house hz
    -- the words of the house
    refine ⟨by show 1 ≤ sizeLine; decide, fun q1 h1 => ?_⟩
    have S1 : Same H (upd H q1 (.lst [.str "house"])) := same_new h1
    refine ⟨_, rfl, p, _, 0, _, rfl, rfl, sameT S1 hp, rfl, a, rfl, ⟨_, sameT S1 sa⟩, fun D hD => ?_⟩
    have gen1 : ∀ (J : Hp), (upd H q1 (.lst [.str "house"])) = J → True := fun _ _ => trivial
    have L1 : (upd H q1 (.lst [V.str "house"])) q1 = some (.lst [.str "house"]) := upd_same
    generalize upd H q1 (.lst [V.str "house"]) = J1 at S1 hD L1 ⊢
    refine lc_tup (K := K) (a := a) (xs := [.int z, .int r, .int g]) (fun i J => Same J1 J ∧ J D = some (.lst ((([dg z, dg r, dg g] : List Str).take i).map V.str))) ⟨same_new hD, upd_same⟩ (fun i J _ ⟨S, _⟩ => sameT (S1.trans S) sa) ?_ ?_
    · rintro i x J hi ⟨S, hJ⟩
      have pw3 : Paired WordOf [.int z, .int r, .int g] [dg z, dg r, dg g] := by
        cases pw with
        | cons _ t => exact t
      obtain ⟨w, e, hw1⟩ := paired_at pw3 hi
      refine ⟨rfl, ?_⟩
      unfold tYes
      refine iteT ⟨_, rfl, ?_⟩
      have fin : ∃ acc, J D = some (.lst acc) ∧ acc.length < sizeLine ∧ Same J1 (upd J D (.lst (acc ++ [.str w]))) ∧ (upd J D (.lst (acc ++ [.str w]))) D = some (.lst ((([dg z, dg r, dg g] : List Str).take (i + 1)).map V.str)) := by
        refine ⟨_, hJ, small5k (by simp only [List.length_map, List.length_take, List.length_cons, List.length_nil]; omega), write_sameW S hD, ?_⟩
        rw [upd_same, List.take_add_one, e]
        simp only [List.map_append, Option.toList_some, List.map_cons, List.map_nil]
      rcases hw1 with rfl | ⟨n, rfl, hn, rfl⟩
      · exact .inr ⟨w, rfl, fin⟩
      · exact .inl ⟨n, rfl, log_small hn, fin⟩
    · rintro J2 ⟨S2, hJ2⟩
      refine ⟨q1, D, _, _, rfl, rfl, S2 _ _ L1, hJ2, by show 1 + 3 ≤ sizeLine; decide, fun q2 h2 => ?_⟩
      have Hq2 : H q2 = none := same_fresh (S1.trans S2) h2
      have S3 : Same H (upd J2 q2 (.lst ((houseW z r g).map V.str))) := (S1.trans S2).trans (same_new h2)
      have L3 : (upd J2 q2 (.lst ((houseW z r g).map V.str))) q2 = some (.lst ((houseW z r g).map V.str)) := upd_same
      show (tNil : TA) _ (upd J2 q2 (.lst ((houseW z r g).map V.str))) _
      generalize upd J2 q2 (.lst ((houseW z r g).map V.str)) = J3 at S3 L3 ⊢
      refine ⟨by show 1 ≤ sizeLine; decide, fun q3 h3 => ?_⟩
      have q32 : q2 ≠ q3 := ne_of_none L3 h3
      have S4 : Same H (upd J3 q3 (.lst [V.ref q2])) := S3.trans (same_new h3)
      have L4 : (upd J3 q3 (.lst [V.ref q2])) q2 = some (.lst ((houseW z r g).map V.str)) := by rw [upd_ne q32]; exact L3
      have M4 : (upd J3 q3 (.lst [V.ref q2])) q3 = some (.lst [V.ref q2]) := upd_same
      show (tLc _ _ _ _ _ : TE) _ (upd J3 q3 (.lst [V.ref q2])) _
      generalize upd J3 q3 (.lst [V.ref q2]) = J4 at S4 L4 M4 ⊢
      refine ⟨_, rfl, p, _, 1, _, rfl, rfl, sameT S4 hp, rfl, b, rfl, ⟨_, sameT S4 sb⟩, fun D2 hD2 => ?_⟩
      have n2 : q2 ≠ D2 := ne_of_none L4 hD2
      have n3 : q3 ≠ D2 := ne_of_none M4 hD2
      refine lc_tup (K := K) (a := b) (xs := xs) (fun i J => ∃ vs : List V, Same J4 J ∧ J D2 = some (.lst vs) ∧ vs.length = i ∧ Paired (fun (v : V) (ws : List Str) => ∃ q, v = .ref q ∧ q ≠ D2 ∧ J q = some (.lst (ws.map V.str)) ∧ H q = none) vs ((rs.take i).map rowW)) ⟨[], same_new hD2, upd_same, rfl, .nil⟩ (fun i J _ ⟨_, S, _⟩ => sameT (S4.trans S) sb) ?_ ?_
      · rintro i x J hi ⟨vs, S, hJ, lv, pv⟩
        have hi' : i < rs.length := by rw [← lb]; exact (List.getElem?_eq_some_iff.mp hi).1
        obtain ⟨e, he, se⟩ := gb i _ (List.getElem?_eq_getElem hi')
        rw [hi] at he
        cases he
        have hr1 := hrs _ (List.getElem_mem hi')
        obtain ⟨hd, a0, a1, b0, b1⟩ := hr1
        have se' := sameT (S4.trans S) se
        refine ⟨rfl, ?_⟩
        unfold tYes
        refine iteT ⟨_, rfl, e, _, 0, _, rfl, rfl, se', rfl, ?_⟩
        refine ⟨_, rfl, e, _, 1, _, rfl, rfl, se', rfl, .inl ⟨_, rfl, log_small (by omega), ?_⟩⟩
        refine ⟨_, rfl, e, _, 2, _, rfl, rfl, se', rfl, .inl ⟨_, rfl, log_small (by omega), ?_⟩⟩
        refine ⟨by show 3 ≤ sizeLine; decide, fun q5 h5 => ?_⟩
        have nD : D2 ≠ q5 := ne_of_none hJ h5
        refine ⟨vs, by rw [upd_ne nD]; exact hJ, small5k (by omega), vs ++ [.ref q5], ?_, upd_same, by rw [List.length_append, List.length_singleton, lv], ?_⟩
        · exact write_sameW (S.trans (same_new h5)) hD2
        · rw [List.take_add_one, List.getElem?_eq_getElem hi', List.map_append]
          refine paired_snoc (Paired.mapP pv fun v ws ⟨q, e1, e2, e3, e4⟩ => ⟨q, e1, e2, ?_, e4⟩) ⟨q5, rfl, nD.symm, ?_, same_fresh (S4.trans S) h5⟩
          · rw [upd_ne e2, upd_ne (ne_of_none e3 h5)]
            exact e3
          · rw [upd_ne nD.symm, upd_same]
            rfl
      · rintro J5 ⟨vs, S, hJ, lv, pv⟩
        rw [lb, List.take_length] at pv
        refine ⟨q3, D2, _, vs, rfl, rfl, S _ _ M4, hJ, Nat.le_of_lt (small5k (by show 1 + vs.length ≤ 5000; omega)), fun q6 h6 => ?_⟩
        refine k q6 _ _ (same_fresh (S4.trans S) h6) upd_same (.cons ⟨q2, rfl, Hq2, same_new h6 _ _ (S _ _ L4)⟩ (Paired.mapP pv fun v ws ⟨q, e1, e2, e3, e4⟩ => ⟨q, e1, e4, same_new h6 _ _ e3⟩)) ((S4.trans S).trans (same_new h6))
theorem ok_lwords (T : Txt K mg) : FnOk P w K mg base CX0 2 T.a_words T.d_words ["_law_pair"] (sp_lwords K) := by
  have h := ok_lwordsX (P := P) (w := w) (base := base) T
  have f : ∀ (vs : List V) (H : Hp) (Q : VK) (E : XK), sp_lwords K vs H Q E → sp_lwordsX K vs H Q E := by
    rintro vs H Q E ⟨p, a, t, z, r, g, rs, e, e1, e2, e3, e4, e5, e6, k⟩
    exact ⟨p, a, t, z, r, g, rs, e, e1, e2, e3, e4, e5, e6, fun a xs J _ h2 h3 h4 => k a xs J (SqL.of h2) (Paired.mapP h3 fun v ws ⟨q, e1, _, e3⟩ => ⟨q, e1, SqL.of e3⟩) h4⟩
  exact ⟨fun vs H Q E x => h.1 vs H Q E (f vs H Q E x), fun A outer s H args us vs Q E hr he hb hv x => h.2 A outer s H args us vs Q E hr he hb hv (f vs H Q E x)⟩
end

/-! ### a drawn house and table -/
def sp_any (K : PySem.W.Frag) : Sp := fun vs H Q _ => ∃ (p : Addr) (n : Nat), vs = [.ref p] ∧ Deck K H p n ∧ n < 700000 ∧
  ∀ (q th ta : Addr) (z r g : Int) (rs : List Row) (J : Hp) (n' : Nat), HouseOf 81 z r g → TableOf 6 rs → J q = some (.tup [.ref th, .ref ta]) → q ≠ p → Dt K p J (.ref th) (houseT z r g) → Dt K p J (.ref ta) (tableD rs) → n' ≤ n + 30 → Deck K J p n' → Keep p H J → Q (.ref q) J
section
variable {P : Program} {w : World} {K : PySem.W.Frag} {mg : Str → Option Value} {base : Heap}
theorem ok_any (T : Txt K mg) : FnOk P w K mg base CX0 4 T.a_any T.d_any ["_law_deck_here"] (sp_any K) := by
  have G_house : FnOk P w K mg base CX0 3 T.a_house T.d_house ["_law_deck_here", "_law_room"] (sp_house K) := ok_house T
  have G_table : FnOk P w K mg base CX0 3 T.a_table T.d_table ["_law_deck_here", "_law_room"] (sp_table K) := ok_table T
  have G_rows_that_fit : FnOk P w K mg base CX0 2 T.a_rows_that_fit T.d_rows_that_fit ["_law_house_here"] (sp_fit K) := ok_fit T
  refine T.F_any.ok sc_any (fun vs H Q E h => ?_) (fun cdv A outer s H vs Q E hr h => ?_)
  · obtain ⟨p, n, rfl, _⟩ := h
    rfl
  · obtain ⟨p, n, rfl, D2, hn, k⟩ := h
    refine ⟨_, (pss_cons (ps_set (i := 1) sc_any.nd rfl (Or.inl rfl) (pe_call G_house (hr.mono (by omega)) (by rfl) T.g_house T.F_house.kp T.b_house .nil pass0 (pa_cons (pv 0) (pa_cons pe_int pa_nil))))
      (pss_one (ps_ret (pe_tup (pa_cons (pv 1) (pa_cons (pe_call G_table (hr.mono (by omega)) (by rfl) T.g_table T.F_table.kp T.b_table .nil pass0 (pa_cons (pv 0) (pa_cons (pe_call G_rows_that_fit (hr.mono (by omega)) (by rfl) T.g_rows_that_fit T.F_rows_that_fit.kp T.b_rows_that_fit .nil pass0 (pa_cons (pv 1) pa_nil)) pa_nil))) pa_nil)))))), ?_⟩
    refine ⟨_, rfl, p, 81, n, rfl, by decide, D2, by omega, fun z r g th H3 hH ht h0 D3 K3 => ?_⟩
    have th0 : th ≠ p := D3.ne_tup ht
    have dH : Dt K p H3 (.ref th) (houseT z r g) := .tup (SqT.of (off_at th0 ht)) (.cons (.int z) (.cons (.int r) (.cons (.int g) .nil)))
    refine ⟨_, rfl, _, rfl, _, rfl, .ref th, z, r, g, rfl, dpSame off_in _ _ dH, hH, fun x x1 x6 => ?_⟩
    refine ⟨p, x, n + 4, rfl, x1, by omega, D3, by omega, fun rs v H4 n4 hT dT hn4 D4 K4 => ?_⟩
    have hT6 : TableOf 6 rs := by
      obtain ⟨a, b, c⟩ := hT
      exact ⟨a, by omega, c⟩
    have l6 : rs.length ≤ 6 := by have := hT6.2.1; omega
    obtain ⟨ta, xs, rfl, st, hxl, _⟩ := dp_table (dpSame off_in _ _ dT)
    refine ⟨by show 2 ≤ sizeLine; decide, fun q hq => ?_⟩
    have qp := D4.ne_new hq
    have KQ : Keep p H4 (upd H4 q (.tup [.ref th, .ref ta])) := Keep.new hq
    exact k q th ta z r g rs _ _ hH hT6 upd_same qp (KQ.dt (K4.dt dH)) (KQ.dt dT) (by omega) (D4.put hq) ((K3.trans K4).trans KQ)
end

/-! ### the first wrong word of a text line -/
def wrongN : List Str → List (List Str) → Option Nat
  | [], [] => none
  | _ :: _, [] => some 0
  | [], _ :: _ => some 0
  | w :: ws, p :: ps => if w ∈ p then (wrongN ws ps).map (· + 1) else some 0
def optN : Option Nat → V
  | none => .non
  | some i => .int (i : Int)
theorem wrong_skip : ∀ (i : Nat) (ws : List Str) (ps : List (List Str)), (∀ j, j < i → ∃ w p, ws[j]? = some w ∧ ps[j]? = some p ∧ w ∈ p) → wrongN ws ps = (wrongN (ws.drop i) (ps.drop i)).map (· + i)
  | 0, ws, ps, _ => by
    rw [List.drop_zero, List.drop_zero]
    cases wrongN ws ps <;> rfl
  | i + 1, ws, ps, h => by
    obtain ⟨w, p, h1, h2, h3⟩ := h 0 (Nat.succ_pos _)
    cases ws with
    | nil => cases h1
    | cons w' ws =>
      cases ps with
      | nil => cases h2
      | cons p' ps =>
        cases h1
        cases h2
        rw [wrongN, if_pos h3, List.drop_succ_cons, List.drop_succ_cons, wrong_skip i ws ps fun j hj => by
          obtain ⟨a, b, q1, q2, q3⟩ := h (j + 1) (by omega)
          exact ⟨a, b, q1, q2, q3⟩]
        rw [Option.map_map]
        rfl
theorem flat_words (p : List Str) : (p.map V.str).all flatV = true := by
  rw [List.all_map]
  exact List.all_eq_true.mpr fun _ _ => rfl
theorem in_words (w : Str) (p : List Str) : inV (.str w) (p.map V.str) = decide (w ∈ p) := by
  unfold inV
  rw [List.any_map]
  by_cases h : w ∈ p
  · rw [decide_eq_true h]
    exact List.any_eq_true.mpr ⟨w, h, beq_self_eq_true w⟩
  · rw [decide_eq_false h]
    refine List.any_eq_false.mpr fun y hy e => h ?_
    have e' : (y == w) = true := e
    rw [← eq_of_beq e']
    exact hy
def PlaceAt (K : PySem.W.Frag) (H : Hp) (v : V) (p : List Str) : Prop := ∃ q : Addr, v = .ref q ∧ SqT K H q (p.map V.str)
def sp_wword (K : PySem.W.Frag) : Sp := fun vs H Q _ => ∃ (a b : Addr) (ws : List Str) (xs : List V) (ps : List (List Str)), vs = [.ref a, .ref b] ∧ SqL K H a (ws.map V.str) ∧ SqT K H b xs ∧ Paired (PlaceAt K H) xs ps ∧ ps.length ≤ 10 ∧ ∀ J, Same H J → Q (optN (wrongN ws ps)) J
section
variable {P : Program} {w : World} {K : PySem.W.Frag} {mg : Str → Option Value} {base : Heap}
theorem ok_wword (T : Txt K mg) : FnOk P w K mg base CX0 1 T.a_wrong_word T.d_wrong_word ["words", "places"] (sp_wword K) := by
  refine T.F_wrong_word.ok sc_wrong_word (fun vs H Q E h => ?_) (fun cdv A outer s H vs Q E hr h => ?_)
  · obtain ⟨_, _, _, _, _, rfl, _⟩ := h
    rfl
  · obtain ⟨a, b, ws, xs, ps, rfl, ha, hb, hp, l10, k⟩ := h
    refine ⟨_, (pss_cons (ps_for PassesOwn.never rfl (pi_enumT (by rfl) T.m_enumerate (pa_cons (pv 1) pa_nil)) (pg_tup (by rfl) (pgs_cons (pg_name (i := 2) sc_wrong_word.nd rfl (Or.inl rfl)) (pgs_cons (pg_name (i := 3) sc_wrong_word.nd rfl (Or.inl rfl)) pgs_nil)))
        (pss_one (ps_if (PW.pt (pw_or (pt_cmpR op_eq (pv 2) (pe_callB (id := "len") call_len_seq (by rfl) T.m_len (by decide +kernel) (pa_cons (pv 0) pa_nil)) (nomark _)) (pw_or1 (pt_cmpR op_notIn_seq (pe_ix ix_list (pv 0) (pv 2) (fun _ _ => rfl)) (pv 3) (by rfl)))))
        (pss_one (ps_ret (pv 2)))
        pss_nil)))
      (pss_one (ps_ret (pe_ifExp (pt_cmpR op_gt (pe_callB (id := "len") call_len_seq (by rfl) T.m_len (by decide +kernel) (pa_cons (pv 0) pa_nil)) (pe_callB (id := "len") call_len_seq (by rfl) T.m_len (by decide +kernel) (pa_cons (pv 1) pa_nil)) (nomark _)) (pe_callB (id := "len") call_len_seq (by rfl) T.m_len (by decide +kernel) (pa_cons (pv 1) pa_nil)) pe_non)))), ?_⟩
    have lp := paired_len hp
    refine ⟨_, rfl, b, xs, rfl, hb, for_it (walk_enumT (K := K) (a := b) (xs := xs) (c := 0)) (fun i σ J => (∃ y2 y3, σ = [some (.ref a), some (.ref b), y2, y3]) ∧ Same H J ∧ ∀ j, j < i → ∃ w p, ws[j]? = some w ∧ ps[j]? = some p ∧ w ∈ p) ⟨⟨none, none, rfl⟩, Same.refl _, fun j h => absurd h (Nat.not_lt_zero _)⟩ (fun i σ J _ ⟨_, S, _⟩ => sameT S hb) ?_ ?_⟩
    · rintro i x σ M M' hi ⟨⟨y2, y3, rfl⟩, S, far⟩ ⟨Tp, x1, x2, rfl, hTn, rfl, e1, hxi⟩
      cases e1
      obtain ⟨p, hpi, q, rfl, sq⟩ := paired_at hp hxi
      have R1 : Same H (upd M Tp (.tup [.int (0 + (i : Int)), .ref q])) := S.trans (same_new hTn)
      have hTp : upd M Tp (.tup [.int (0 + (i : Int)), .ref q]) Tp = some (.tup [.int (0 + (i : Int)), .ref q]) := upd_same
      generalize upd M Tp (.tup [.int (0 + (i : Int)), .ref q]) = M4 at *
      have skip := wrong_skip i ws ps far
      have dp : ps.drop i = p :: ps.drop (i + 1) := List.drop_eq_getElem?_toList_append .. |>.trans (by rw [hpi]; rfl)
      refine ⟨Tp, _, rfl, SqT.of hTp, rfl, _, _, rfl, _, _, rfl, rfl, ?_⟩
      refine ⟨_, rfl, _, rfl, a, _, rfl, .inl (sameL R1 ha), rfl, _, rfl, ?_⟩
      rw [List.length_map]
      by_cases e : V.int (0 + (i : Int)) = V.int (ws.length : Int)
      · rw [decide_eq_true e]
        have e' : i = ws.length := by have := V.int.inj e; omega
        refine iteT ⟨_, rfl, ?_⟩
        rw [dp, e', List.drop_length] at skip
        rw [show (0 + (i : Int)) = ((0 + ws.length : Nat) : Int) by omega]
        rw [skip] at k
        exact k _ R1
      · rw [decide_eq_false e]
        have e' : i ≠ ws.length := fun z => e (by rw [z]; congr 1; omega)
        refine iteF ?_
        have bad : (∀ v, ws[i]? = some v → v ∉ p) → Q (.int (0 + (i : Int))) M4 := fun h => by
          have z : wrongN ws ps = some i := by
            rw [skip, dp]
            cases hd : ws.drop i with
            | nil => show (some (0 + i)) = _; rw [Nat.zero_add]
            | cons v r =>
              have hv : ws[i]? = some v := by
                rw [← List.head?_drop, hd]
                rfl
              show ((if v ∈ p then _ else some 0).map _) = _
              rw [if_neg (h v hv)]
              show some (0 + i) = _
              rw [Nat.zero_add]
          rw [z] at k
          rw [Int.zero_add]
          exact k _ R1
        have le : i ≤ ws.length := by
          cases i with
          | zero => exact Nat.zero_le _
          | succ j =>
            obtain ⟨v, _, h1, _⟩ := far j (Nat.lt_succ_self j)
            exact (List.getElem?_eq_some_iff.mp h1).1
        have lt : i < ws.length := by omega
        have hv : ws[i]? = some ws[i] := List.getElem?_eq_getElem lt
        have hat : atI (ws.map V.str) (0 + (i : Int)) = some (.str ws[i]) := by
          rw [Int.zero_add]
          exact atI_nat (by rw [List.getElem?_map, hv]; rfl)
        refine ⟨_, rfl, _, rfl, a, _, _, _, rfl, rfl, sameL R1 ha, hat, _, rfl, q, _, rfl, .inr (sameT R1 sq), rfl, flat_words p, _, rfl, ?_⟩
        rw [if_pos rfl, in_words]
        by_cases hm : ws[i] ∈ p
        · rw [decide_eq_true hm]
          refine iteF ⟨⟨_, _, rfl⟩, R1, fun j hj => ?_⟩
          rcases Nat.lt_or_ge j i with c | c
          · exact far j c
          · obtain rfl : j = i := by omega
            exact ⟨_, p, hv, hpi, hm⟩
        · rw [decide_eq_false hm]
          refine iteT ⟨_, rfl, bad fun v e => ?_⟩
          rw [hv] at e
          cases e
          exact hm
    · rintro σ M ⟨⟨y2, y3, rfl⟩, S, far⟩
      have lpx : xs.length = ps.length := lp
      have skip := wrong_skip ps.length ws ps (by rw [← lpx]; exact far)
      rw [List.drop_length] at skip
      have l1 : (ws.map V.str).length = ws.length := List.length_map _
      refine ⟨_, rfl, a, _, rfl, .inl (sameL S ha), _, rfl, b, _, rfl, .inr (sameT S hb), _, _, rfl, rfl, _, rfl, ?_⟩
      rw [l1, lpx]
      by_cases c : (ps.length : Int) < (ws.length : Int)
      · rw [decide_eq_true c]
        refine iteT ⟨_, rfl, b, _, rfl, .inr (sameT S hb), ?_⟩
        have z : wrongN ws ps = some ps.length := by
          rw [skip]
          cases hd : ws.drop ps.length with
          | nil =>
            have := congrArg List.length hd
            rw [List.length_drop, List.length_nil] at this
            omega
          | cons v r =>
            show some (0 + ps.length) = _
            rw [Nat.zero_add]
        rw [z] at k
        rw [lpx]
        exact k _ S
      · rw [decide_eq_false c]
        refine iteF ?_
        have z : wrongN ws ps = none := by
          rw [skip]
          cases hd : ws.drop ps.length with
          | nil => rfl
          | cons v r =>
            have := congrArg List.length hd
            rw [List.length_drop, List.length_cons] at this
            omega
        rw [z] at k
        exact k _ S
end

/-! ### BadText is made -/
section
variable {P : Program} {w : World} {K : PySem.W.Frag} {mg : Str → Option Value} {base : Heap}
theorem ok_BadText (T : Txt K mg) : FnOk P w K mg base CX0 1 T.a_BadText_init T.d_BadText_init ["self", "line", "word"] (spInit2 K T.C_BadText "line" "word") := by
  refine T.F_BadText_init.ok sc_BadText_init (fun vs H Q E h => ?_) (fun cdv A outer s H vs Q E hr h => ?_)
  · obtain ⟨a, x, y, rfl, _⟩ := h
    rfl
  · obtain ⟨a, x, y, rfl, ha, k⟩ := h
    refine ⟨_, pss_cons (ps_ost (pv 0) (pv 1)) (pss_one (ps_ost (pv 0) (pv 2))), ?_⟩
    refine ⟨_, rfl, _, rfl, a, T.C_BadText, rfl, T.E_BadText.ox, T.E_BadText.nf, .inl ⟨ha, fun dx hn ne => ?_⟩⟩
    refine ⟨_, rfl, _, rfl, a, T.C_BadText, rfl, T.E_BadText.ox, T.E_BadText.ng, .inr ⟨dx, [("line", x)], upd_same, ?_, by show 1 ≤ 900; decide, k dx hn ne⟩⟩
    rw [upd_ne ne, upd_same]
end

/-! ### the house that a right text line tells -/
theorem ns_but {h h' : Heap} {a T : Addr} {m : Str → Option Value} {ps : Array Value} (n : h.Ns a m) (hT : h.get? T = some { cls := .none, data := .fields ps }) (k : ∀ b o, b ≠ T → h.get? b = some o → h'.get? b = some o) : h'.Ns a m := by
  obtain ⟨o, es, ep, ho, hd, r⟩ := n
  refine ⟨o, es, ep, k a o (fun z => ?_) ho, hd, r⟩
  rw [z, hT] at ho
  cases ho
  cases hd
theorem dg_int {j : Int} (h0 : 0 ≤ j) (h1 : j < 1000) : PySem.intText? (dg j) = some j ∧ (dg j).length ≤ 10 := by
  refine ⟨?_, dg_len h0 h1⟩
  obtain ⟨n, rfl⟩ : ∃ n : Nat, j = (n : Int) := ⟨j.toNat, (Int.toNat_of_nonneg h0).symm⟩
  exact TL.int_num (Nat.le_trans (TL.numL_len (k := 3) (by decide) (by omega)) (by decide))
def sp_houseof (K : PySem.W.Frag) (tb : Addr) : Sp := fun vs H Q _ => ∃ (a : Addr) (ws : List Str) (z r g : Int), vs = [.ref a] ∧ SqL K H a (ws.map V.str) ∧ ws.length ≤ 1000000 ∧ ((ws.drop 1).take 3 = [dg z, dg r, dg g]) ∧ 0 ≤ z ∧ z ≤ 9 ∧ 0 ≤ r ∧ r ≤ 9 ∧ 0 ≤ g ∧ g ≤ 9 ∧ GxR.TabG H tb ∧
  ∀ (t : Addr) (J : Hp), Grow H J → J t = some (.tup [.int z, .int r, .int g]) → H t = none → Q (.ref t) J
section
variable {P : Program} {w : World} {K : PySem.W.Frag} {mg : Str → Option Value} {base : Heap}
theorem ok_houseof (T : Txt K mg) (TB : GxR.TabB base mg T.c_house_of T.p_house_of) : FnOk P w K mg base CX0 1 T.a_house_of T.d_house_of ["words"] (sp_houseof K T.p_house_of) := by
  refine Fun.okC T.F_house_of T.h_house_of sc_house_of (fun vs H Q E h => ?_) (fun A outer s H vs Q E hr h => ?_)
  · obtain ⟨a, ws, z, r, g, rfl, _⟩ := h
    rfl
  · obtain ⟨a, ws, z, r, g, rfl, ha, lw, hw, z0, z9, r0, r9, g0, g9, hT, k⟩ := h
    refine ⟨_, (pss_one (ps_ret (pe_tupO (c := T.c_house_of) (T := T.p_house_of) hr (by rfl) T.m_tuple TB rfl ⟨rfl, rfl, by decide +kernel, rfl, rfl, gen_free (by decide +kernel)⟩ (pe_slice sl_list (pv 0) (po_some pe_int) (po_some (pe_op op_add (pe_glob (v := .int (3)) rfl T.g_LAG_PLACE ⟨_, rfl⟩) pe_int))) (fun _ => rfl) rfl))), ?_⟩
    have l4 : 4 ≤ ws.length := by
      have := congrArg List.length hw
      rw [List.length_take, List.length_drop] at this
      simp only [List.length_cons, List.length_nil] at this
      omega
    have cut : cutV (ws.map V.str) (some 1) (some 4) = [dg z, dg r, dg g].map V.str := by
      rw [← hw, List.map_take, List.map_drop]
      unfold cutV
      have lm : (ws.map V.str).length = ws.length := List.length_map _
      rw [lm, show HT.sIx ws.length 0 (some 1) = min 1 ws.length from HT.sIx_nat ws.length 0 1, show HT.sIx ws.length ws.length (some 4) = min 4 ws.length from HT.sIx_nat ws.length ws.length 4, Nat.min_eq_left (by omega : 1 ≤ ws.length), Nat.min_eq_left l4]
    refine ⟨_, rfl, 1, rfl, _, _, rfl, rfl, 4, rfl, a, _, rfl, ha, fun c hc => ?_⟩
    rw [cut]
    have G1 : Grow H (upd H c (.lst ([dg z, dg r, dg g].map V.str))) := Grow.new hc
    have hC : SqL K (upd H c (.lst ([dg z, dg r, dg g].map V.str))) c ([dg z, dg r, dg g].map V.str) := SqL.of upd_same
    generalize upd H c (.lst ([dg z, dg r, dg g].map V.str)) = H1 at G1 hC ⊢
    refine ⟨3, fun i v => ∃ t, ∃ j, [z, r, g][i]? = some j ∧ v = .str (dg j) t, fun _ => true, fun i => .int ([z, r, g].getD i 0), by decide, G1.t.tab hT, fun pins s1 uv I1 ru => ?_, fun t vs H2 g2 hn h2 hd => ?_⟩
    · cases ru
      obtain ⟨its, rv, isL, _⟩ := I1.list hC
      obtain ⟨ps, hP, _⟩ := G1.t.tab hT
      have hPo := I1.hok _ _ hP
      have il : its.length = 3 := by have := rv.length; rw [List.length_map] at this; exact this.symm
      have item : ∀ (i : Nat) v, its[i]? = some v → ∃ t, ∃ j, [z, r, g][i]? = some j ∧ v = .str (dg j) t := fun i v hv => by
        have lt : i < 3 := il ▸ (List.getElem?_eq_some_iff.mp hv).1
        obtain ⟨j, hj⟩ : ∃ j, [z, r, g][i]? = some j := ⟨_, List.getElem?_eq_getElem lt⟩
        have e3 : [dg z, dg r, dg g][i]? = some (dg j) := by
          have : [dg z, dg r, dg g] = [z, r, g].map dg := rfl
          rw [this, List.getElem?_map, hj]
          rfl
        obtain ⟨v', e, t, rfl⟩ := rv.get (i := i) (x := .str (dg j)) (by rw [List.getElem?_map, e3]; rfl)
        rw [e] at hv
        cases hv
        exact ⟨t, j, hj, rfl⟩
      refine ⟨?_, ?_⟩
      · obtain ⟨ob, fp0, St, o1, o2, o3, o4, o5⟩ := over_lst (X := _) (I1.ok.hd rfl) isL.isList hPo
        refine ⟨ob, fp0, St, o1, fun A' hA => ?_, o3, o4, o5⟩
        have W := o2 A' hA
        rw [il] at W
        refine { W with item := fun i s Q E hi st hQ => W.item i s Q E hi st fun v h' tk hv => hQ v h' tk (item i v hv) }
      · intro cenv A' E' i v s2 m2 hv hsc hcl hA hns hm2 hk hgl hbl
        obtain ⟨tv, j, hj, rfl⟩ := hv
        have hkind : cenv.scope.kind = .function := by rw [hsc]
        have j0 : 0 ≤ j ∧ j ≤ 9 := by
          have := List.mem_of_getElem? hj
          simp only [List.mem_cons, List.not_mem_nil, or_false] at this
          rcases this with e | e | e <;> (rw [e]; omega)
        refine ⟨gt_nil rfl _, fun _ => ?_⟩
        have gG := ns_but (I1.mod.glob.keeps I1.bk) hPo hk
        obtain ⟨mb, b1, b2⟩ := I1.mod.blt
        have gB := ns_but (b1.keeps I1.bk) hPo hk
        have ik := dg_int j0.1 (by omega)
        have gw : ∀ p : Pos, GV P w A' cenv s2 (.Name "word" p) (IsS (dg j)) := fun p => gv_loc (x := "word") hkind (by rw [hsc]; decide +kernel) hns hm2 ⟨_, rfl⟩
        have gi : ∀ p p2 p3 : Pos, GV P w A' cenv s2 (.Call (.Name "int" p) [.Name "word" p2] [] p3) (IsI j) := fun p p2 p3 => gv_intT (mg := mg) (mb := mb) hkind (by show cenv.scope.names.lookup _ = _; rw [hsc]; decide +kernel) (by rw [hgl]; exact gG) T.m_int (by rw [hbl]; exact gB) ((b2 "int" (by decide)).trans (by decide +kernel)) (gw p2) ik.1 (Nat.le_trans ik.2 (by decide))
        refine wpAny_mono (gi _ _ _ E' s2 (GxR.keeps_refl _)) (fun y s3 ⟨⟨tk, ey⟩, k3⟩ => ⟨?_, k3⟩) fun _ _ z => z
        subst ey
        refine ⟨[], ⟨.int j, [], ⟨tk, rfl⟩, .nil, fun H2 _ _ => ?_⟩, by simp, fun p hp => (List.not_mem_nil hp).elim⟩
        have ej : [z, r, g].getD i 0 = j := by rw [List.getD_eq_getElem?_getD, hj]; rfl
        show Dp K H2 (.int j) (.int ([z, r, g].getD i 0))
        rw [ej]
        exact .int j
    · refine k t H2 (G1.trans g2) ?_ (G1.free hn)
      have e : (((List.range 3).filter fun _ => true).map fun i => PyData.int ([z, r, g].getD i 0)) = [PyData.int z, .int r, .int g] := rfl
      rw [e] at hd
      cases hd with
      | cons x1 hd =>
      cases hd with
      | cons x2 hd =>
      cases hd with
      | cons x3 hd =>
      cases hd
      cases x1
      cases x2
      cases x3
      exact h2
end

/-! ### the first wrong word, line by line -/
def HW : List (List Str) := [["house"], ["2", "3", "4"], ["1", "2", "3", "4", "5", "6"], ["0", "1", "2", "3"]]
def RW : List (List Str) := [["named", "next", "wait"], ["0", "1", "2", "3", "4", "5"], ["0", "1", "2", "3", "4", "5"]]
def numOf (w : Str) : Int := (PySem.intText? w).getD 0
def badHouse (ws : List Str) : Bool := !decide (numOf (ws.getD 1 "") ^ (numOf (ws.getD 3 "") + 1).toNat ≤ 81)
def houseFault (ws : List Str) : Option Nat := match wrongN ws HW with
  | none => if badHouse ws = true then some 3 else none
  | some k => if 3 < k then (if badHouse ws = true then some 3 else some k) else some k
def lineFault (n : Nat) (ws : List Str) : Option Nat := if n = 0 then houseFault ws else if 6 < n then some 0 else wrongN ws RW
theorem digit_words : ([("0" : Str), "1", "2", "3", "4", "5", "6"] : List Str) = [dg 0, dg 1, dg 2, dg 3, dg 4, dg 5, dg 6] := by decide +kernel
theorem in24 {w : Str} (h : w ∈ ([("2" : Str), "3", "4"] : List Str)) : ∃ z : Int, w = dg z ∧ 2 ≤ z ∧ z ≤ 4 := by
  simp only [List.mem_cons, List.not_mem_nil, or_false] at h
  rcases h with e | e | e <;> rw [e]
  · exact ⟨2, by decide +kernel, by decide, by decide⟩
  · exact ⟨3, by decide +kernel, by decide, by decide⟩
  · exact ⟨4, by decide +kernel, by decide, by decide⟩
theorem in16 {w : Str} (h : w ∈ ([("1" : Str), "2", "3", "4", "5", "6"] : List Str)) : ∃ z : Int, w = dg z ∧ 1 ≤ z ∧ z ≤ 6 := by
  simp only [List.mem_cons, List.not_mem_nil, or_false] at h
  rcases h with e | e | e | e | e | e <;> rw [e]
  · exact ⟨1, by decide +kernel, by decide, by decide⟩
  · exact ⟨2, by decide +kernel, by decide, by decide⟩
  · exact ⟨3, by decide +kernel, by decide, by decide⟩
  · exact ⟨4, by decide +kernel, by decide, by decide⟩
  · exact ⟨5, by decide +kernel, by decide, by decide⟩
  · exact ⟨6, by decide +kernel, by decide, by decide⟩
theorem in03 {w : Str} (h : w ∈ ([("0" : Str), "1", "2", "3"] : List Str)) : ∃ z : Int, w = dg z ∧ 0 ≤ z ∧ z ≤ 3 := by
  simp only [List.mem_cons, List.not_mem_nil, or_false] at h
  rcases h with e | e | e | e <;> rw [e]
  · exact ⟨0, by decide +kernel, by decide, by decide⟩
  · exact ⟨1, by decide +kernel, by decide, by decide⟩
  · exact ⟨2, by decide +kernel, by decide, by decide⟩
  · exact ⟨3, by decide +kernel, by decide, by decide⟩
theorem in05 {w : Str} (h : w ∈ ([("0" : Str), "1", "2", "3", "4", "5"] : List Str)) : ∃ z : Int, w = dg z ∧ 0 ≤ z ∧ z ≤ 5 := by
  simp only [List.mem_cons, List.not_mem_nil, or_false] at h
  rcases h with e | e | e | e | e | e <;> rw [e]
  · exact ⟨0, by decide +kernel, by decide, by decide⟩
  · exact ⟨1, by decide +kernel, by decide, by decide⟩
  · exact ⟨2, by decide +kernel, by decide, by decide⟩
  · exact ⟨3, by decide +kernel, by decide, by decide⟩
  · exact ⟨4, by decide +kernel, by decide, by decide⟩
  · exact ⟨5, by decide +kernel, by decide, by decide⟩
theorem dg_in24 {z : Int} (h0 : 2 ≤ z) (h1 : z ≤ 4) : dg z ∈ ([("2" : Str), "3", "4"] : List Str) := by
  have : z = 2 ∨ z = 3 ∨ z = 4 := by omega
  rcases this with e | e | e <;> (rw [e]; decide +kernel)
theorem dg_in16 {z : Int} (h0 : 1 ≤ z) (h1 : z ≤ 6) : dg z ∈ ([("1" : Str), "2", "3", "4", "5", "6"] : List Str) := by
  have : z = 1 ∨ z = 2 ∨ z = 3 ∨ z = 4 ∨ z = 5 ∨ z = 6 := by omega
  rcases this with e | e | e | e | e | e <;> (rw [e]; decide +kernel)
theorem dg_in03 {z : Int} (h0 : 0 ≤ z) (h1 : z ≤ 3) : dg z ∈ ([("0" : Str), "1", "2", "3"] : List Str) := by
  have : z = 0 ∨ z = 1 ∨ z = 2 ∨ z = 3 := by omega
  rcases this with e | e | e | e <;> (rw [e]; decide +kernel)
theorem dg_in05 {z : Int} (h0 : 0 ≤ z) (h1 : z ≤ 5) : dg z ∈ ([("0" : Str), "1", "2", "3", "4", "5"] : List Str) := by
  have : z = 0 ∨ z = 1 ∨ z = 2 ∨ z = 3 ∨ z = 4 ∨ z = 5 := by omega
  rcases this with e | e | e | e | e | e <;> (rw [e]; decide +kernel)
theorem numOf_dg {j : Int} (h0 : 0 ≤ j) (h1 : j < 1000) : numOf (dg j) = j := by
  unfold numOf
  rw [(dg_int h0 h1).1]
  rfl
/-- four words of a house's line stand as they should -/
theorem house_words {ws : List Str} (h : wrongN ws HW = none ∨ ∃ k, wrongN ws HW = some k ∧ 3 < k) : ∃ (z r g : Int) (rest : List Str), ws = ("house" : Str) :: dg z :: dg r :: dg g :: rest ∧ 2 ≤ z ∧ z ≤ 4 ∧ 1 ≤ r ∧ r ≤ 6 ∧ 0 ≤ g ∧ g ≤ 3 := by
  have no : ∀ k, (k ≤ 3) → wrongN ws HW ≠ some k := fun k hk e => by
    rcases h with h | ⟨k', h, h3⟩
    · rw [h] at e; cases e
    · rw [h] at e
      cases e
      omega
  match ws, no with
  | [], no => exact absurd rfl (no 0 (by decide))
  | w0 :: ws, no =>
    by_cases h0 : w0 ∈ ([("house" : Str)] : List Str)
    · match ws, no with
      | [], no => exact absurd (by simp only [HW, wrongN, if_pos h0]; rfl) (no 1 (by decide))
      | w1 :: ws, no =>
        by_cases h1 : w1 ∈ ([("2" : Str), "3", "4"] : List Str)
        · match ws, no with
          | [], no => exact absurd (by simp only [HW, wrongN, if_pos h0, if_pos h1]; rfl) (no 2 (by decide))
          | w2 :: ws, no =>
            by_cases h2 : w2 ∈ ([("1" : Str), "2", "3", "4", "5", "6"] : List Str)
            · match ws, no with
              | [], no => exact absurd (by simp only [HW, wrongN, if_pos h0, if_pos h1, if_pos h2]; rfl) (no 3 (by decide))
              | w3 :: ws, no =>
                by_cases h3 : w3 ∈ ([("0" : Str), "1", "2", "3"] : List Str)
                · obtain ⟨z, rfl, z2, z4⟩ := in24 h1
                  obtain ⟨r, rfl, r1, r6⟩ := in16 h2
                  obtain ⟨g, rfl, g0, g3⟩ := in03 h3
                  have e0 : w0 = "house" := List.mem_singleton.mp h0
                  exact ⟨z, r, g, ws, by rw [e0], z2, z4, r1, r6, g0, g3⟩
                · exact absurd (by simp only [HW, wrongN, if_pos h0, if_pos h1, if_pos h2, if_neg h3]; rfl) (no 3 (by decide))
            · exact absurd (by simp only [HW, wrongN, if_pos h0, if_pos h1, if_neg h2]; rfl) (no 2 (by decide))
        · exact absurd (by simp only [HW, wrongN, if_pos h0, if_neg h1]; rfl) (no 1 (by decide))
    · exact absurd (by simp only [HW, wrongN, if_neg h0]) (no 0 (by decide))
theorem fault_house {z r g : Int} (h : HouseOf 81 z r g) : houseFault (houseW z r g) = none := by
  obtain ⟨z2, z4, r1, r6, g0, g3, hp⟩ := h
  have a : wrongN (houseW z r g) HW = none := by
    simp only [houseW, HW, wrongN, if_pos (List.mem_singleton.mpr rfl : ("house" : Str) ∈ ([("house" : Str)] : List Str)), if_pos (dg_in24 z2 z4), if_pos (dg_in16 r1 r6), if_pos (dg_in03 g0 g3)]
    rfl
  have b : badHouse (houseW z r g) = false := by
    show (!decide (numOf (dg z) ^ (numOf (dg g) + 1).toNat ≤ 81)) = false
    rw [numOf_dg (by omega) (by omega), numOf_dg (by omega) (by omega), decide_eq_true hp]
    rfl
  unfold houseFault
  rw [a, b]
  rfl
theorem fault_row {m : Int} {r : Row} (hm : m ≤ 6) (h : RowOf m r) : wrongN (rowW r) RW = none := by
  obtain ⟨hd, a0, a1, b0, b1⟩ := h
  have h0 : r.1 ∈ ([("named" : Str), "next", "wait"] : List Str) := by rcases hd with e | e | e <;> (rw [e]; decide)
  simp only [rowW, RW, wrongN, if_pos h0, if_pos (dg_in05 a0 (by omega)), if_pos (dg_in05 b0 (by omega))]
  rfl
def sp_rowof (K : PySem.W.Frag) : Sp := fun vs H Q _ => ∃ (a : Addr) (d : Str) (x y : Int) (rest : List Str), vs = [.ref a] ∧ SqL K H a ((d :: dg x :: dg y :: rest).map V.str) ∧ 0 ≤ x ∧ x < 1000 ∧ 0 ≤ y ∧ y < 1000 ∧
  ∀ (t : Addr), H t = none → Q (.ref t) (upd H t (.tup [.str d, .int x, .int y]))
def sp_whouse (K : PySem.W.Frag) (tb : Addr) : Sp := fun vs H Q _ => ∃ (a : Addr) (ws : List Str), vs = [.ref a] ∧ SqL K H a (ws.map V.str) ∧ ws.length ≤ 1000000 ∧ GxR.TabG H tb ∧ ∀ J, Grow H J → Q (optN (houseFault ws)) J
def sp_wline (K : PySem.W.Frag) (tb : Addr) : Sp := fun vs H Q _ => ∃ (n : Nat) (a : Addr) (ws : List Str), vs = [.int (n : Int), .ref a] ∧ SqL K H a (ws.map V.str) ∧ ws.length ≤ 1000000 ∧ GxR.TabG H tb ∧ ∀ J, Grow H J → Q (optN (lineFault n ws)) J
section
variable {P : Program} {w : World} {K : PySem.W.Frag} {mg : Str → Option Value} {base : Heap}
theorem ok_rowof (T : Txt K mg) : FnOk P w K mg base CX0 1 T.a_row_of T.d_row_of ["words"] (sp_rowof K) := by
  refine T.F_row_of.ok sc_row_of (fun vs H Q E h => ?_) (fun cdv A outer s H vs Q E hr h => ?_)
  · obtain ⟨a, d, x, y, rest, rfl, _⟩ := h
    rfl
  · obtain ⟨a, d, x, y, rest, rfl, ha, x0, x1, y0, y1, k⟩ := h
    refine ⟨_, (pss_one (ps_ret (pe_tup (pa_cons (pe_ix ix_list (pv 0) pe_int (fun _ _ => rfl)) (pa_cons (pe_callTy (T := "int") call_int_str (by rfl) T.m_int (by decide +kernel) (pa_cons (pe_ix ix_list (pv 0) pe_int (fun _ _ => rfl)) pa_nil)) (pa_cons (pe_callTy (T := "int") call_int_str (by rfl) T.m_int (by decide +kernel) (pa_cons (pe_ix ix_list (pv 0) pe_int (fun _ _ => rfl)) pa_nil)) pa_nil)))))), ?_⟩
    have ix := dg_int x0 x1
    have iy := dg_int y0 y1
    refine ⟨_, rfl, a, _, 0, _, rfl, rfl, ha, atI_nat (j := 0) rfl, ?_⟩
    refine ⟨_, rfl, a, _, 1, _, rfl, rfl, ha, atI_nat (j := 1) rfl, _, x, rfl, ix.1, Nat.le_trans ix.2 (by decide), ?_⟩
    refine ⟨_, rfl, a, _, 2, _, rfl, rfl, ha, atI_nat (j := 2) rfl, _, y, rfl, iy.1, Nat.le_trans iy.2 (by decide), ?_⟩
    exact ⟨by show 3 ≤ sizeLine; decide, fun t ht => k t ht⟩
theorem ok_whouse (T : Txt K mg) (TB : GxR.TabB base mg T.c_house_of T.p_house_of) : FnOk P w K mg base CX0 3 T.a_wrong_house_word T.d_wrong_house_word ["words"] (sp_whouse K T.p_house_of) := by
  have G_wrong_word : FnOk P w K mg base CX0 1 T.a_wrong_word T.d_wrong_word ["words", "places"] (sp_wword K) := ok_wword T
  have G_is_house : FnOk P w K mg base CX0 2 T.a_is_house T.d_is_house ["value"] (sp_ishouse K) := ok_ishouse T
  have G_house_of : FnOk P w K mg base CX0 1 T.a_house_of T.d_house_of ["words"] (sp_houseof K T.p_house_of) := ok_houseof T TB
  refine T.F_wrong_house_word.ok sc_wrong_house_word (fun vs H Q E h => ?_) (fun cdv A outer s H vs Q E hr h => ?_)
  · obtain ⟨a, ws, rfl, _⟩ := h
    rfl
  · obtain ⟨a, ws, rfl, ha, lw, hT, k⟩ := h
    refine ⟨_, (pss_cons (ps_set (i := 1) sc_wrong_house_word.nd rfl (Or.inl rfl) (pe_call G_wrong_word (hr.mono (by omega)) (by rfl) T.g_wrong_word T.F_wrong_word.kp T.b_wrong_word .nil pass0 (pa_cons (pv 0) (pa_cons (pe_glob (v := .ref T.a_HOUSE_WORDS) rfl T.g_HOUSE_WORDS rfl) pa_nil))))
      (pss_cons (ps_if (PW.pt (pw_and (PW.pt (pw_or (pt_cmpR op_isN (pv 1) pe_non (nomark _)) (pw_or1 (pt_cmpR op_gt (pv 1) (pe_glob (v := .int (3)) rfl T.g_LAG_PLACE ⟨_, rfl⟩) (nomark _))))) (pw_and1 (pt_not (pt_val (pe_call G_is_house (hr.mono (by omega)) (by rfl) T.g_is_house T.F_is_house.kp T.b_is_house .nil pass0 (pa_cons (pe_call G_house_of (hr.mono (by omega)) (by rfl) T.g_house_of T.F_house_of.kp T.b_house_of .nil pass0 (pa_cons (pv 0) pa_nil)) pa_nil)))))))
        (pss_one (ps_ret (pe_glob (v := .int (3)) rfl T.g_LAG_PLACE ⟨_, rfl⟩)))
        pss_nil)
      (pss_one (ps_ret (pv 1))))), ?_⟩
    have pl : Paired (PlaceAt K H) [.ref T.a_HOUSE_WORDS_0, .ref T.a_HOUSE_WORDS_1, .ref T.a_HOUSE_WORDS_2, .ref T.a_HOUSE_WORDS_3] HW :=
      .cons ⟨_, rfl, sq_any T.q_HOUSE_WORDS_0⟩ (.cons ⟨_, rfl, sq_any T.q_HOUSE_WORDS_1⟩ (.cons ⟨_, rfl, sq_any T.q_HOUSE_WORDS_2⟩ (.cons ⟨_, rfl, sq_any T.q_HOUSE_WORDS_3⟩ .nil)))
    refine ⟨_, rfl, a, T.a_HOUSE_WORDS, ws, _, HW, rfl, ha, sq_any T.q_HOUSE_WORDS, pl, by decide, fun J S => ?_⟩
    cases e : wrongN ws HW with
    | none =>
      obtain ⟨z, r, g, rest, ew, z2, z4, r1, r6, g0, g3⟩ := house_words (.inl e)
      refine ⟨_, rfl, rfl, _, rfl, ?_⟩
      rw [decide_eq_true (show optN none = V.non from rfl)]
      refine iteT (iteT ?_)
      · refine ⟨_, rfl, a, ws, z, r, g, rfl, sameL S ha, lw, by rw [ew]; rfl, by omega, by omega, by omega, by omega, by omega, by omega, (Tabs.of_same S).tab hT, fun t J2 G2 h2 hn => ?_⟩
        refine ⟨.ref t, houseT z r g, rfl, .tup (SqT.of h2) (.cons (.int z) (.cons (.int r) (.cons (.int g) .nil))), _, rfl, ?_⟩
        have eb : houseD (houseT z r g) = !badHouse ws := by
          rw [ew]
          show houseD (.tuple [.int z, .int r, .int g]) = !(!decide (numOf (dg z) ^ (numOf (dg g) + 1).toNat ≤ 81))
          rw [numOf_dg (by omega) (by omega), numOf_dg (by omega) (by omega)]
          have w1 : wholeD 2 4 (.int z) = true := by simp only [wholeD, Bool.and_eq_true, decide_eq_true_eq]; omega
          have w2 : wholeD 1 6 (.int r) = true := by simp only [wholeD, Bool.and_eq_true, decide_eq_true_eq]; omega
          have w3 : wholeD 0 3 (.int g) = true := by simp only [wholeD, Bool.and_eq_true, decide_eq_true_eq]; omega
          simp only [houseD, w1, w2, w3, Bool.true_and, Bool.not_not]
        rw [eb]
        have R := (Grow.of_same S).trans G2
        cases hb : badHouse ws with
        | true =>
          have z1 : houseFault ws = some 3 := by
            unfold houseFault
            simp [e, hb]
          rw [z1] at k
          exact iteT (k _ R)
        | false =>
          have z1 : houseFault ws = none := by
            unfold houseFault
            simp [e, hb]
          rw [z1] at k
          exact iteF ⟨_, rfl, k _ R⟩
    | some i =>
      refine ⟨_, rfl, rfl, _, rfl, ?_⟩
      rw [decide_eq_false (show ¬ optN (some i) = V.non by intro q; cases q)]
      refine iteF ⟨_, rfl, _, _, rfl, rfl, _, rfl, ?_⟩
      by_cases c : (3 : Int) < (i : Int)
      · rw [decide_eq_true c]
        obtain ⟨z, r, g, rest, ew, z2, z4, r1, r6, g0, g3⟩ := house_words (.inr ⟨i, e, by omega⟩)
        refine iteT ?_
        refine ⟨_, rfl, a, ws, z, r, g, rfl, sameL S ha, lw, by rw [ew]; rfl, by omega, by omega, by omega, by omega, by omega, by omega, (Tabs.of_same S).tab hT, fun t J2 G2 h2 hn => ?_⟩
        refine ⟨.ref t, houseT z r g, rfl, .tup (SqT.of h2) (.cons (.int z) (.cons (.int r) (.cons (.int g) .nil))), _, rfl, ?_⟩
        have eb : houseD (houseT z r g) = !badHouse ws := by
          rw [ew]
          show houseD (.tuple [.int z, .int r, .int g]) = !(!decide (numOf (dg z) ^ (numOf (dg g) + 1).toNat ≤ 81))
          rw [numOf_dg (by omega) (by omega), numOf_dg (by omega) (by omega)]
          have w1 : wholeD 2 4 (.int z) = true := by simp only [wholeD, Bool.and_eq_true, decide_eq_true_eq]; omega
          have w2 : wholeD 1 6 (.int r) = true := by simp only [wholeD, Bool.and_eq_true, decide_eq_true_eq]; omega
          have w3 : wholeD 0 3 (.int g) = true := by simp only [wholeD, Bool.and_eq_true, decide_eq_true_eq]; omega
          simp only [houseD, w1, w2, w3, Bool.true_and, Bool.not_not]
        rw [eb]
        have R := (Grow.of_same S).trans G2
        cases hb : badHouse ws with
        | true =>
          have z1 : houseFault ws = some 3 := by
            unfold houseFault
            simp [e, hb, if_pos (show 3 < i by omega)]
          rw [z1] at k
          exact iteT (k _ R)
        | false =>
          have z1 : houseFault ws = some i := by
            unfold houseFault
            simp [e, hb, if_pos (show 3 < i by omega)]
          rw [z1] at k
          exact iteF ⟨_, rfl, k _ R⟩
      · rw [decide_eq_false c]
        have z1 : houseFault ws = some i := by
          unfold houseFault
          simp only [e, if_neg (show ¬ 3 < i by omega)]
        rw [z1] at k
        exact iteF (iteF ⟨_, rfl, k _ (Grow.of_same S)⟩)
theorem ok_wline (T : Txt K mg) (TB : GxR.TabB base mg T.c_house_of T.p_house_of) : FnOk P w K mg base CX0 4 T.a_wrong_word_of T.d_wrong_word_of ["number", "words"] (sp_wline K T.p_house_of) := by
  have G_wrong_word : FnOk P w K mg base CX0 1 T.a_wrong_word T.d_wrong_word ["words", "places"] (sp_wword K) := ok_wword T
  have G_wrong_house_word : FnOk P w K mg base CX0 3 T.a_wrong_house_word T.d_wrong_house_word ["words"] (sp_whouse K T.p_house_of) := ok_whouse T TB
  refine T.F_wrong_word_of.ok sc_wrong_word_of (fun vs H Q E h => ?_) (fun cdv A outer s H vs Q E hr h => ?_)
  · obtain ⟨n, a, ws, rfl, _⟩ := h
    rfl
  · obtain ⟨n, a, ws, rfl, ha, lw, hT, k⟩ := h
    refine ⟨_, (pss_cons (ps_if (pt_cmpR op_eq (pv 0) pe_int (nomark _))
        (pss_one (ps_ret (pe_call G_wrong_house_word (hr.mono (by omega)) (by rfl) T.g_wrong_house_word T.F_wrong_house_word.kp T.b_wrong_house_word .nil pass0 (pa_cons (pv 1) pa_nil))))
        pss_nil)
      (pss_cons (ps_if (pt_cmpR op_gt (pv 0) (pe_glob (v := .int (6)) rfl T.g_MOST_ROWS ⟨_, rfl⟩) (nomark _))
        (pss_one (ps_ret pe_int))
        pss_nil)
      (pss_one (ps_ret (pe_call G_wrong_word (hr.mono (by omega)) (by rfl) T.g_wrong_word T.F_wrong_word.kp T.b_wrong_word .nil pass0 (pa_cons (pv 1) (pa_cons (pe_glob (v := .ref T.a_ROW_WORDS) rfl T.g_ROW_WORDS rfl) pa_nil))))))), ?_⟩
    refine ⟨_, rfl, rfl, _, rfl, ?_⟩
    by_cases n0 : n = 0
    · subst n0
      rw [decide_eq_true (show V.int ((0 : Nat) : Int) = V.int 0 from rfl)]
      exact iteT ⟨_, rfl, a, ws, rfl, ha, lw, hT, fun J G => k J G⟩
    · rw [decide_eq_false (show ¬ V.int (n : Int) = V.int 0 by intro q; have := V.int.inj q; omega)]
      refine iteF ⟨_, rfl, _, _, rfl, rfl, _, rfl, ?_⟩
      by_cases c : (6 : Int) < (n : Int)
      · rw [decide_eq_true c]
        have z1 : lineFault n ws = some 0 := by unfold lineFault; rw [if_neg n0, if_pos (by omega)]
        rw [z1] at k
        exact iteT (k _ (Grow.refl _))
      · rw [decide_eq_false c]
        have z1 : lineFault n ws = wrongN ws RW := by unfold lineFault; rw [if_neg n0, if_neg (by omega)]
        rw [z1] at k
        have pl : Paired (PlaceAt K H) [.ref T.a_ROW_WORDS_0, .ref T.a_ROW_WORDS_1, .ref T.a_ROW_WORDS_2] RW :=
          .cons ⟨_, rfl, sq_any T.q_ROW_WORDS_0⟩ (.cons ⟨_, rfl, sq_any T.q_ROW_WORDS_1⟩ (.cons ⟨_, rfl, sq_any T.q_ROW_WORDS_2⟩ .nil))
        exact iteF ⟨_, rfl, a, T.a_ROW_WORDS, ws, _, RW, rfl, ha, sq_any T.q_ROW_WORDS, pl, by decide, fun J S => k _ (Grow.of_same S)⟩
end

/-! ### texts are checked: the first fault is told by BadText -/
def faultW : Nat → List (List Str) → Option (Nat × Nat)
  | _, [] => none
  | n, ws :: r => match lineFault n ws with
    | some i => some (n, i)
    | none => faultW (n + 1) r
def rowFault (rows : Int) (ws : List Str) : Option Nat := if rows ≤ numOf (ws.getD 1 "") then some 1 else if rows ≤ numOf (ws.getD 2 "") then some 2 else none
def faultN (rows : Int) : Nat → List (List Str) → Option (Nat × Nat)
  | _, [] => none
  | n, ws :: r => match rowFault rows ws with
    | some i => some (n, i)
    | none => faultN rows (n + 1) r
theorem faultW_at {ls : List (List Str)} {i : Nat} {ws : List Str} (e : faultW 0 ls = faultW i (ls.drop i)) (h : ls[i]? = some ws) :
    (∀ k, lineFault i ws = some k → faultW 0 ls = some (i, k)) ∧ (lineFault i ws = none → faultW 0 ls = faultW (i + 1) (ls.drop (i + 1))) := by
  have d : ls.drop i = ws :: ls.drop (i + 1) := by rw [List.drop_eq_getElem?_toList_append, h]; rfl
  rw [d] at e
  constructor
  · intro k hk
    rw [e, faultW, hk]
  · intro hk
    rw [e, faultW, hk]
theorem faultN_at {rows : Int} {ls : List (List Str)} {i m : Nat} {ws : List Str} (e : faultN rows m ls = faultN rows (m + i) (ls.drop i)) (h : ls[i]? = some ws) :
    (∀ k, rowFault rows ws = some k → faultN rows m ls = some (m + i, k)) ∧ (rowFault rows ws = none → faultN rows m ls = faultN rows (m + (i + 1)) (ls.drop (i + 1))) := by
  have d : ls.drop i = ws :: ls.drop (i + 1) := by rw [List.drop_eq_getElem?_toList_append, h]; rfl
  rw [d] at e
  constructor
  · intro k hk
    rw [e, faultN, hk]
  · intro hk
    rw [e, faultN, hk]
    rfl
def Bad (C : Addr) (E : XK) (H : Hp) (n k : Nat) : Prop := ∀ (J : Hp) (d : Addr), Grow H J → J d = some (.xd [("word", .int (k : Int)), ("line", .int (n : Int))]) → E (.ref C) (some d) J
def sp_checkwX (K : PySem.W.Frag) (tb C : Addr) : Sp := fun vs H Q E => ∃ (a : Addr) (xs : List V) (ls : List (List Str)), vs = [.ref a] ∧ SqL K H a xs ∧ Paired (LineAt K H) xs ls ∧ (∀ ws ∈ ls, ws.length ≤ 1000000) ∧ GxR.TabG H tb ∧
  (faultW 0 ls = none → ∀ J, Grow H J → Q .non J) ∧ ∀ n k, faultW 0 ls = some (n, k) → Bad C E H n k
/-- a line of a table with its two numbers -/
def RowLine (ws : List Str) : Prop := ∃ (d : Str) (x y : Int) (rest : List Str), ws = d :: dg x :: dg y :: rest ∧ 0 ≤ x ∧ x < 1000 ∧ 0 ≤ y ∧ y < 1000
def sp_checknX (K : PySem.W.Frag) (C : Addr) : Sp := fun vs H Q E => ∃ (a : Addr) (xs : List V) (ls : List (List Str)), vs = [.ref a] ∧ SqL K H a xs ∧ Paired (LineAt K H) xs ls ∧ (∀ ws ∈ ls.drop 1, RowLine ws) ∧
  (faultN ((ls.length : Int) - 1) 1 (ls.drop 1) = none → ∀ J, Grow H J → Q .non J) ∧ ∀ n k, faultN ((ls.length : Int) - 1) 1 (ls.drop 1) = some (n, k) → Bad C E H n k
section
variable {P : Program} {w : World} {K : PySem.W.Frag} {mg : Str → Option Value} {base : Heap}
theorem ok_checkwX (T : Txt K mg) (TB : GxR.TabB base mg T.c_house_of T.p_house_of) : FnOk P w K mg base (L2.CX P w) 5 T.a_check_words T.d_check_words ["lines"] (sp_checkwX K T.p_house_of T.C_BadText) := by
  have G_wrong_word_of : FnOk P w K mg base CX0 4 T.a_wrong_word_of T.d_wrong_word_of ["number", "words"] (sp_wline K T.p_house_of) := ok_wline T TB
  have G_BadText_init : FnOk P w K mg base CX0 1 T.a_BadText_init T.d_BadText_init ["self", "line", "word"] (spInit2 K T.C_BadText "line" "word") := ok_BadText T
  refine T.F_check_words.okX sc_check_words (fun vs H Q E h => ?_) (fun cdv A outer s H vs Q E hr h => ?_)
  · obtain ⟨a, xs, ls, rfl, _⟩ := h
    rfl
  · obtain ⟨a, xs, ls, rfl, ha, hl, lw, hT, k, kE⟩ := h
    refine ⟨_, (pss_one (ps_for (passes_of rfl) rfl (pi_enumL (by rfl) T.m_enumerate (pa_cons (pv 0) pa_nil)) (pg_tup (by rfl) (pgs_cons (pg_name (i := 1) sc_check_words.nd rfl (Or.inl rfl)) (pgs_cons (pg_name (i := 2) sc_check_words.nd rfl (Or.inl rfl)) pgs_nil)))
        (pss_cons (ps_set (i := 3) sc_check_words.nd rfl (Or.inl rfl) (pe_call G_wrong_word_of (hr.mono (by omega)) (by rfl) T.g_wrong_word_of T.F_wrong_word_of.kp T.b_wrong_word_of .nil pass0 (pa_cons (pv 1) (pa_cons (pv 2) pa_nil))))
      (pss_one (ps_if (pt_cmpR op_notN (pv 3) pe_non (nomark _))
        (pss_one (ps_raise rfl (takes_of rfl rfl rfl rfl) (pmk_oex T.E_BadText.ox T.E_BadText.iC T.E_BadText.tI G_BadText_init (hr.mono (by omega)) T.b_BadText_init .nil pass0 (by rfl) T.E_BadText.gC (pa_cons (pv 1) (pa_cons (pv 3) pa_nil)))))
        pss_nil))))), ?_⟩
    have ll := paired_len hl
    refine ⟨_, rfl, a, xs, rfl, ha, for_it (walk_enumL (K := K) (a := a) (xs := xs) (c := 0)) (fun i σ J => (∃ y1 y2 y3, σ = [some (.ref a), y1, y2, y3]) ∧ Grow H J ∧ faultW 0 ls = faultW i (ls.drop i)) ⟨⟨none, none, none, rfl⟩, Grow.refl _, rfl⟩ (fun i σ J _ ⟨_, S, _⟩ => S.seq ha) ?_ ?_⟩
    · rintro i x σ M M' hi ⟨⟨y1, y2, y3, rfl⟩, S, hf⟩ ⟨Tp, x1, x2, rfl, hTn, rfl, e1, hxi⟩
      cases e1
      obtain ⟨ws, hwi, q, rfl, sq⟩ := paired_at hl hxi
      obtain ⟨fa1, fa2⟩ := faultW_at hf hwi
      have R1 : Grow H (upd M Tp (.tup [.int (0 + (i : Int)), .ref q])) := S.trans (Grow.new hTn)
      have hTp : upd M Tp (.tup [.int (0 + (i : Int)), .ref q]) Tp = some (.tup [.int (0 + (i : Int)), .ref q]) := upd_same
      generalize upd M Tp (.tup [.int (0 + (i : Int)), .ref q]) = M4 at *
      refine ⟨Tp, _, rfl, SqT.of hTp, rfl, _, _, rfl, _, _, rfl, rfl, ?_⟩
      refine ⟨_, rfl, _, rfl, i, q, ws, by rw [Int.zero_add]; rfl, R1.seq sq, lw ws (List.mem_of_getElem? hwi), R1.t.tab hT, fun J G => ?_⟩
      cases hlf : lineFault i ws with
      | none => exact ⟨_, rfl, rfl, _, rfl, iteNS rfl ⟨⟨_, _, _, rfl⟩, R1.trans G, fa2 hlf⟩⟩
      | some m =>
        refine ⟨_, rfl, rfl, _, rfl, ?_⟩
        rw [decide_eq_false (show ¬ optN (some m) = V.non by intro q; cases q)]
        refine iteT ⟨_, rfl, _, rfl, err_two fun d hd => ?_⟩
        refine kE i m (fa1 m hlf) _ d (R1.trans (G.trans (Grow.new hd))) ?_
        rw [upd_same, Int.zero_add]
        rfl
    · rintro σ M ⟨⟨y1, y2, y3, rfl⟩, S, hf⟩
      have hf' : faultW 0 ls = none := by
        rw [hf, ll, List.drop_length]
        rfl
      exact k hf' _ S
theorem ok_checknX (T : Txt K mg) : FnOk P w K mg base (L2.CX P w) 4 T.a_check_numbers T.d_check_numbers ["lines"] (sp_checknX K T.C_BadText) := by
  have G_BadText_init : FnOk P w K mg base CX0 1 T.a_BadText_init T.d_BadText_init ["self", "line", "word"] (spInit2 K T.C_BadText "line" "word") := ok_BadText T
  refine T.F_check_numbers.okX sc_check_numbers (fun vs H Q E h => ?_) (fun cdv A outer s H vs Q E hr h => ?_)
  · obtain ⟨a, xs, ls, rfl, _⟩ := h
    rfl
  · obtain ⟨a, xs, ls, rfl, ha, hl, nf, k, kE⟩ := h
    refine ⟨_, (pss_cons (ps_set (i := 1) sc_check_numbers.nd rfl (Or.inl rfl) (pe_op op_sub (pe_callB (id := "len") call_len_seq (by rfl) T.m_len (by decide +kernel) (pa_cons (pv 0) pa_nil)) pe_int))
      (pss_one (ps_for (passes_of rfl) rfl (pi_enumLS (by rfl) T.m_enumerate (pa_cons (pe_slice sl_list (pv 0) (po_some pe_int) po_none) pa_nil) (pk_cons pe_int pk_nil)) (pg_tup (by rfl) (pgs_cons (pg_name (i := 2) sc_check_numbers.nd rfl (Or.inl rfl)) (pgs_cons (pg_name (i := 3) sc_check_numbers.nd rfl (Or.inl rfl)) pgs_nil)))
        (pss_one (ps_for (passes_of rfl) rfl (pi_tup (pe_glob (v := .ref T.a_ROW_PLACES) rfl T.g_ROW_PLACES rfl)) (pg_name (i := 4) sc_check_numbers.nd rfl (Or.inl rfl))
        (pss_one (ps_if (pt_cmpR op_ge (pe_callTy (T := "int") call_int_str (by rfl) T.m_int (by decide +kernel) (pa_cons (pe_ix ix_list (pv 3) (pv 4) (fun _ _ => rfl)) pa_nil)) (pv 1) (nomark _))
        (pss_one (ps_raise rfl (takes_of rfl rfl rfl rfl) (pmk_oex T.E_BadText.ox T.E_BadText.iC T.E_BadText.tI G_BadText_init (hr.mono (by omega)) T.b_BadText_init .nil pass0 (by rfl) T.E_BadText.gC (pa_cons (pv 2) (pa_cons (pv 4) pa_nil)))))
        pss_nil))))))), ?_⟩
    have ll := paired_len hl
    have cut : cutV xs (some 1) none = xs.drop 1 := by
      unfold cutV
      rw [HT.sIx_none, show HT.sIx xs.length 0 (some 1) = min 1 xs.length from HT.sIx_nat xs.length 0 1]
      cases xs with
      | nil => rfl
      | cons x r =>
        rw [Nat.min_eq_left (by rw [List.length_cons]; omega), List.take_of_length_le (by rw [List.length_drop]; omega)]
    refine ⟨_, rfl, a, _, rfl, .inl ha, _, _, rfl, rfl, ?_⟩
    refine ⟨_, rfl, 1, rfl, a, _, rfl, ha, fun c hc => ?_⟩
    rw [cut]
    have S1 : Grow H (upd H c (.lst (xs.drop 1))) := Grow.new hc
    have hC : SqL K (upd H c (.lst (xs.drop 1))) c (xs.drop 1) := SqL.of upd_same
    generalize upd H c (.lst (xs.drop 1)) = H1 at S1 hC ⊢
    rw [ll]
    generalize hR : (ls.length : Int) - 1 = R at k kE ⊢
    refine ⟨c, _, 1, rfl, rfl, by decide, by decide, hC, for_it (walk_enumL (K := K) (a := c) (xs := xs.drop 1) (c := 1)) (fun i σ J => (∃ y2 y3 y4, σ = [some (.ref a), some (.int R), y2, y3, y4]) ∧ Grow H1 J ∧ faultN R 1 (ls.drop 1) = faultN R (1 + i) ((ls.drop 1).drop i)) ⟨⟨none, none, none, by rw [← hR]; rfl⟩, Grow.refl _, rfl⟩ (fun i σ J _ ⟨_, S, _⟩ => S.seq hC) ?_ ?_⟩
    · rintro i x σ M M' hi ⟨⟨y2, y3, y4, rfl⟩, S, hf⟩ ⟨Tp, x1, x2, rfl, hTn, rfl, e1, hxi⟩
      cases e1
      have hxi : (xs.drop 1)[i]? = some x2 := hxi
      rw [List.getElem?_drop] at hxi
      obtain ⟨ws, hwi, q, rfl, sq⟩ := paired_at hl hxi
      have hwd : (ls.drop 1)[i]? = some ws := by rw [List.getElem?_drop]; exact hwi
      obtain ⟨fa1, fa2⟩ := faultN_at hf hwd
      have R1 : Grow H1 (upd M Tp (.tup [.int (1 + (i : Int)), .ref q])) := S.trans (Grow.new hTn)
      have hTp : upd M Tp (.tup [.int (1 + (i : Int)), .ref q]) Tp = some (.tup [.int (1 + (i : Int)), .ref q]) := upd_same
      generalize upd M Tp (.tup [.int (1 + (i : Int)), .ref q]) = M4 at *
      refine ⟨Tp, _, rfl, SqT.of hTp, rfl, _, _, rfl, _, _, rfl, rfl, ?_⟩
      obtain ⟨d, u, v, rest, rfl, u0, u1, v0, v1⟩ := nf ws (List.mem_of_getElem? hwd)
      have eu : numOf ((d :: dg u :: dg v :: rest).getD 1 "") = u := numOf_dg u0 u1
      have ev : numOf ((d :: dg u :: dg v :: rest).getD 2 "") = v := numOf_dg v0 v1
      have rf1 : R ≤ u → rowFault R (d :: dg u :: dg v :: rest) = some 1 := fun h => by
        unfold rowFault
        rw [eu, if_pos h]
      have rf2 : ¬ R ≤ u → R ≤ v → rowFault R (d :: dg u :: dg v :: rest) = some 2 := fun h h' => by
        unfold rowFault
        rw [eu, ev, if_neg h, if_pos h']
      have rf3 : ¬ R ≤ u → ¬ R ≤ v → rowFault R (d :: dg u :: dg v :: rest) = none := fun h h' => by
        unfold rowFault
        rw [eu, ev, if_neg h, if_neg h']
      have sq' := (S1.trans R1).seq sq
      have cast1 : ∀ (m : Nat), (1 + (i : Int)) = ((1 + i : Nat) : Int) := fun _ => by omega
      refine ⟨T.a_ROW_PLACES, rfl, ⟨_, sq_any T.q_ROW_PLACES⟩, for_tup (K := K) (a := T.a_ROW_PLACES) (xs := [.int 1, .int 2]) (fun j σ J => (∃ y4, σ = [some (.ref a), some (.int R), some (.int (1 + (i : Int))), some (.ref q), y4]) ∧ J = M4 ∧ (1 ≤ j → ¬ R ≤ u) ∧ (2 ≤ j → ¬ R ≤ v)) ⟨⟨_, rfl⟩, rfl, fun h => absurd h (by decide), fun h => absurd h (by decide)⟩ (fun j σ J _ _ => sq_any T.q_ROW_PLACES) ?_ ?_⟩
      · rintro j x σ J hx ⟨⟨y4, rfl⟩, rfl, n1, n2⟩
        have iu := dg_int u0 u1
        have iv := dg_int v0 v1
        match j, hx, n1, n2 with
        | 0, hx, n1, n2 =>
          cases hx
          refine ⟨_, rfl, _, rfl, q, _, 1, _, rfl, rfl, sq', atI_nat (j := 1) rfl, _, u, rfl, iu.1, Nat.le_trans iu.2 (by decide), _, rfl, _, _, rfl, rfl, _, rfl, ?_⟩
          by_cases c1 : R ≤ u
          · rw [decide_eq_true c1]
            refine iteT ⟨_, rfl, _, rfl, err_two fun d' hd => ?_⟩
            refine kE (1 + i) 1 (fa1 1 (rf1 c1)) _ d' ((S1.trans R1).trans (Grow.new hd)) ?_
            rw [upd_same, cast1 0]
            rfl
          · rw [decide_eq_false c1]
            exact iteF ⟨⟨_, rfl⟩, rfl, fun _ => c1, fun h => absurd h (by decide)⟩
        | 1, hx, n1, n2 =>
          cases hx
          have c1 := n1 (Nat.le_refl _)
          refine ⟨_, rfl, _, rfl, q, _, 2, _, rfl, rfl, sq', atI_nat (j := 2) rfl, _, v, rfl, iv.1, Nat.le_trans iv.2 (by decide), _, rfl, _, _, rfl, rfl, _, rfl, ?_⟩
          by_cases c2 : R ≤ v
          · rw [decide_eq_true c2]
            refine iteT ⟨_, rfl, _, rfl, err_two fun d' hd => ?_⟩
            refine kE (1 + i) 2 (fa1 2 (rf2 c1 c2)) _ d' ((S1.trans R1).trans (Grow.new hd)) ?_
            rw [upd_same, cast1 0]
            rfl
          · rw [decide_eq_false c2]
            exact iteF ⟨⟨_, rfl⟩, rfl, fun _ => c1, fun _ => c2⟩
      · rintro σ J ⟨⟨y4, rfl⟩, rfl, n1, n2⟩
        exact ⟨⟨_, _, _, rfl⟩, R1, fa2 (rf3 (n1 (by decide)) (n2 (by decide)))⟩
    · rintro σ M ⟨⟨y2, y3, y4, rfl⟩, S, hf⟩
      have hf' : faultN R 1 (ls.drop 1) = none := by
        have le : (xs.drop 1).length = (ls.drop 1).length := by rw [List.length_drop, List.length_drop, ll]
        rw [hf, le, List.drop_length]
        rfl
      exact k hf' _ (S1.trans S)
end

/-! ### any text is read -/
theorem spl_all (S : List Nat) : ∀ (l : List Nat) (k : Nat) (acc : List Nat), TL.spl S k acc l ≠ [] ∧ ∀ p ∈ TL.spl S k acc l, p.length ≤ acc.length + l.length
  | [], k, acc => by
    rw [TL.spl_nil]
    exact ⟨List.cons_ne_nil _ _, fun p hp => by rw [List.mem_singleton.mp hp]; exact Nat.le_add_right _ _⟩
  | c :: r, 0, acc => by
    cases h : TL.pre S (c :: r) with
    | true =>
      rw [TL.spl_hit h]
      refine ⟨List.cons_ne_nil _ _, fun p hp => ?_⟩
      rcases List.mem_cons.mp hp with e | e
      · rw [e]; exact Nat.le_add_right _ _
      · have := (spl_all S r (S.length - 1) []).2 p e
        rw [List.length_nil] at this
        rw [List.length_cons]
        omega
    | false =>
      rw [TL.spl_miss h]
      have ih := spl_all S r 0 (acc ++ [c])
      refine ⟨ih.1, fun p hp => ?_⟩
      have := ih.2 p hp
      rw [List.length_append, List.length_singleton] at this
      rw [List.length_cons]
      omega
  | c :: r, k + 1, acc => by
    have ih := spl_all S r k acc
    refine ⟨ih.1, fun p hp => ?_⟩
    have := ih.2 p hp
    rw [List.length_cons]
    omega
theorem split_all {x y : Str} (hy : TL.tl y ≠ []) (hk : y.cps.all (· < 256) = true) : Txt.split x y ≠ [] ∧ ∀ p ∈ Txt.split x y, p.length ≤ x.length := by
  have e := TL.split_spl x y hy (TL.kind_ok hk)
  obtain ⟨a, b⟩ := spl_all (TL.tl y) (TL.tl x) 0 []
  refine ⟨fun z => a (by rw [← e, z]; rfl), fun p hp => ?_⟩
  have := b (TL.tl p) (by rw [← e]; exact List.mem_map.mpr ⟨p, hp, rfl⟩)
  rw [List.length_nil, Nat.zero_add, ← TL.len_tl, ← TL.len_tl] at this
  exact this
def linesT (t : Str) : List (List Str) := (if (Txt.split t "\n").getLastD "" = "" then (Txt.split t "\n").dropLast else Txt.split t "\n").map fun p => Txt.split p " "
def endsT (t : Str) : Bool := decide ((Txt.split t "\n").getLastD "" = "")
def readF (t : Str) : Option (Nat × Nat) := match faultW 0 (linesT t) with
  | some e => some e
  | none => match faultN (((linesT t).length : Int) - 1) 1 ((linesT t).drop 1) with
    | some e => some e
    | none => if (linesT t).length < 2 ∨ endsT t = false then some ((linesT t).length, 0) else none
def rowT (ws : List Str) : Row := (ws.getD 0 "", numOf (ws.getD 1 ""), numOf (ws.getD 2 ""))
def rowsT (t : Str) : List Row := ((linesT t).drop 1).map rowT
def wordT (t : Str) (i : Nat) : Int := numOf (((linesT t).headD []).getD i "")
theorem faultW_none : ∀ {ls : List (List Str)} {n : Nat}, faultW n ls = none → ∀ (i : Nat) (ws : List Str), ls[i]? = some ws → lineFault (n + i) ws = none
  | [], _, _, _, _, h => by cases h
  | w :: ls, n, e, i, ws, h => by
    rw [faultW] at e
    cases hl : lineFault n w with
    | some k => rw [hl] at e; cases e
    | none =>
      rw [hl] at e
      cases i with
      | zero => cases h; exact hl
      | succ i =>
        have := faultW_none (n := n + 1) e i ws h
        rw [show n + (i + 1) = n + 1 + i by omega]
        exact this
theorem row_words {ws : List Str} (h : wrongN ws RW = none) : ∃ (d : Str) (x y : Int), ws = [d, dg x, dg y] ∧ deedOk d ∧ 0 ≤ x ∧ x ≤ 5 ∧ 0 ≤ y ∧ y ≤ 5 := by
  match ws, h with
  | [], h => cases h
  | w0 :: ws, h =>
    by_cases h0 : w0 ∈ ([("named" : Str), "next", "wait"] : List Str)
    · simp only [RW, wrongN, if_pos h0] at h
      match ws, h with
      | [], h => cases h
      | w1 :: ws, h =>
        by_cases h1 : w1 ∈ ([("0" : Str), "1", "2", "3", "4", "5"] : List Str)
        · simp only [wrongN, if_pos h1] at h
          match ws, h with
          | [], h => cases h
          | w2 :: ws, h =>
            by_cases h2 : w2 ∈ ([("0" : Str), "1", "2", "3", "4", "5"] : List Str)
            · simp only [wrongN, if_pos h2] at h
              match ws, h with
              | [], h =>
                obtain ⟨x, rfl, x0, x5⟩ := in05 h1
                obtain ⟨y, rfl, y0, y5⟩ := in05 h2
                simp only [List.mem_cons, List.not_mem_nil, or_false] at h0
                exact ⟨w0, x, y, rfl, h0, x0, x5, y0, y5⟩
              | _ :: _, h => cases h
            · simp only [wrongN, if_neg h2] at h
              cases h
        · simp only [wrongN, if_neg h1] at h
          cases h
    · simp only [RW, wrongN, if_neg h0] at h
      cases h
theorem cut1 (xs : List V) : cutV xs (some 1) none = xs.drop 1 := by
  unfold cutV
  rw [HT.sIx_none, show HT.sIx xs.length 0 (some 1) = min 1 xs.length from HT.sIx_nat xs.length 0 1]
  cases xs with
  | nil => rfl
  | cons x r =>
    rw [Nat.min_eq_left (by rw [List.length_cons]; omega), List.take_of_length_le (by rw [List.length_drop]; omega)]
theorem rows_dp2 {K : PySem.W.Frag} {J : Hp} : ∀ {us : List V} {rs : List Row}, Paired (fun (v : V) (r : Row) => ∃ b : Addr, v = .ref b ∧ J b = some (.tup [.str r.1, .int r.2.1, .int r.2.2])) us rs → DpAll K J us (rs.map rowD)
  | _, _, .nil => .nil
  | _, _, .cons ⟨b, e, hb⟩ t => by
    subst e
    exact .cons (.tup (SqT.of hb) (.cons (.str _) (.cons (.int _) (.cons (.int _) .nil)))) (rows_dp2 t)
def sp_readX (K : PySem.W.Frag) (tb C : Addr) : Sp := fun vs H Q E => ∃ t : Str, vs = [.str t] ∧ t.length ≤ 900000 ∧ (Txt.split t "\n").length ≤ 10001 ∧ GxR.TabG H tb ∧
  (readF t = none → ∀ (q h tt : Addr) (J : Hp), Grow H J → J q = some (.tup [.ref h, .ref tt]) → Dp K J (.ref h) (houseT (wordT t 1) (wordT t 2) (wordT t 3)) → Dp K J (.ref tt) (tableD (rowsT t)) → Q (.ref q) J) ∧
  ∀ n k, readF t = some (n, k) → Bad C E H n k
section
variable {P : Program} {w : World} {K : PySem.W.Frag} {mg : Str → Option Value} {base : Heap}
theorem ok_readX (T : Txt K mg) (TB : GxR.TabB base mg T.c_house_of T.p_house_of) : FnOk P w K mg base (L2.CX P w) 6 T.a_read_table T.d_read_table ["text"] (sp_readX K T.p_house_of T.C_BadText) := by
  have G_check_words : FnOk P w K mg base (L2.CX P w) 5 T.a_check_words T.d_check_words ["lines"] (sp_checkwX K T.p_house_of T.C_BadText) := ok_checkwX T TB
  have G_check_numbers : FnOk P w K mg base (L2.CX P w) 4 T.a_check_numbers T.d_check_numbers ["lines"] (sp_checknX K T.C_BadText) := ok_checknX T
  have G_house_of : FnOk P w K mg base CX0 1 T.a_house_of T.d_house_of ["words"] (sp_houseof K T.p_house_of) := ok_houseof T TB
  have G_row_of : FnOk P w K mg base CX0 1 T.a_row_of T.d_row_of ["words"] (sp_rowof K) := ok_rowof T
  have G_BadText_init : FnOk P w K mg base CX0 1 T.a_BadText_init T.d_BadText_init ["self", "line", "word"] (spInit2 K T.C_BadText "line" "word") := ok_BadText T
  refine T.F_read_table.okX sc_read_table (fun vs H Q E h => ?_) (fun cdv A outer s H vs Q E hr h => ?_)
  · obtain ⟨t, rfl, _⟩ := h
    rfl
  · obtain ⟨t, rfl, lt, cnt, hT, k, kE⟩ := h
    refine ⟨_, (pss_cons (ps_asg (pe_split (pv 0) pe_str) (pg_star rfl (pgs_star (pg_name (i := 1) sc_read_table.nd rfl (Or.inl rfl)) (pgs_cons (pg_name (i := 2) sc_read_table.nd rfl (Or.inl rfl)) pgs_nil))))
      (Evl.pss_cut (ps_setLc (i := 3) (own := [("piece", 4)]) (g := gName 4) (by rfl) sc_read_table.nd rfl rfl (sw_true rfl rfl rfl (by decide +kernel)) (pi_list (pe_ifExp (pt_cmpR op_eq (pv 2) pe_str (nomark _)) (pv 1) (pe_op op_cat (pv 1) (pe_lst (pa_cons (pv 2) pa_nil))))) (blkOk_by (own := [("piece", 4)]) (N := ["text", "pieces", "rest", "lines", "piece", "words"]) (sc := defScope s_read_table) (by decide +kernel)) (fun _ _ _ _ _ => (pg_name (i := 4) sc_read_table.nd rfl (Or.inl rfl))) (fun _ _ _ _ _ => pts_nil) (fun _ _ _ _ _ => (pe_split (pv 4) pe_str)))
      (pss_cons (ps_expr (pe_call G_check_words (hr.mono (by omega)) (by rfl) T.g_check_words T.F_check_words.kp T.b_check_words .nil (passes_call (E := E) (takes_of (E := E) rfl rfl rfl rfl) (fun _ _ _ _ h => h)) (pa_cons (pv 3) pa_nil)))
      (pss_cons (ps_expr (pe_call G_check_numbers (hr.mono (by omega)) (by rfl) T.g_check_numbers T.F_check_numbers.kp T.b_check_numbers .nil (passes_call (E := E) (takes_of (E := E) rfl rfl rfl rfl) (fun _ _ _ _ h => h)) (pa_cons (pv 3) pa_nil)))
      (pss_cons (ps_if (PW.pt (pw_or (pt_cmpR op_lt (pe_callB (id := "len") call_len_seq (by rfl) T.m_len (by decide +kernel) (pa_cons (pv 3) pa_nil)) pe_int (nomark _)) (pw_or1 (pt_cmpR op_ne (pv 2) pe_str (nomark _)))))
        (pss_one (ps_raise rfl (takes_of rfl rfl rfl rfl) (pmk_oex T.E_BadText.ox T.E_BadText.iC T.E_BadText.tI G_BadText_init (hr.mono (by omega)) T.b_BadText_init .nil pass0 (by rfl) T.E_BadText.gC (pa_cons (pe_callB (id := "len") call_len_seq (by rfl) T.m_len (by decide +kernel) (pa_cons (pv 3) pa_nil)) (pa_cons pe_int pa_nil)))))
        pss_nil)
      (pss_one (ps_ret (pe_tup (pa_cons (pe_call G_house_of (hr.mono (by omega)) (by rfl) T.g_house_of T.F_house_of.kp T.b_house_of .nil pass0 (pa_cons (pe_ix ix_list (pv 3) pe_int (fun _ _ => rfl)) pa_nil)) (pa_cons (pe_callTy (T := "tuple") call_tuple_of (by rfl) T.m_tuple (by decide +kernel) (pa_cons (pe_lc (own := [("words", 5)]) (g := gName 5) (by rfl) sc_read_table.nd (pi_list (pe_slice sl_list (pv 3) (po_some pe_int) po_none)) (blkOk_by (own := [("words", 5)]) (N := ["text", "pieces", "rest", "lines", "piece", "words"]) (sc := defScope s_read_table) (by decide +kernel)) (fun _ _ _ _ _ => (pg_name (i := 5) sc_read_table.nd rfl (Or.inl rfl))) (fun _ _ _ _ _ => pts_nil) (fun _ _ _ _ _ => (pe_call G_row_of (hr.mono (by omega)) (by rfl) T.g_row_of T.F_row_of.kp T.b_row_of .nil pass0 (pa_cons (pv 5) pa_nil)))) pa_nil)) pa_nil)))))))))), ?_⟩
    obtain ⟨ne, lens⟩ := split_all (x := t) (y := "\n") (by decide) (by decide +kernel)
    obtain ⟨ys, y, eps⟩ : ∃ ys y, Txt.split t "\n" = ys ++ [y] := ⟨_, _, (List.dropLast_concat_getLast ne).symm⟩
    have eL : linesT t = (if y = "" then ys else ys ++ [y]).map fun p => Txt.split p " " := by
      unfold linesT
      rw [eps, List.getLastD_concat, List.dropLast_concat]
    have eE : endsT t = decide (y = "") := by
      unfold endsT
      rw [eps, List.getLastD_concat]
    have lys : ys.length ≤ 10001 := by
      rw [eps, List.length_append, List.length_singleton] at cnt
      omega
    have plen : ∀ p ∈ ys ++ [y], p.length ≤ 900000 := fun p hp => Nat.le_trans (lens p (by rw [eps]; exact hp)) lt
    refine ⟨_, rfl, ⟨_, rfl⟩, _, _, rfl, rfl, rfl, Nat.le_trans (Nat.add_le_add_right lt 2) (by decide), fun p hp => ?_⟩
    rw [eps, List.map_append]
    have S1 : Same H (upd H p (.lst (ys.map V.str ++ [y].map V.str))) := same_new hp
    have P1 : SqL K (upd H p (.lst (ys.map V.str ++ [y].map V.str))) p (ys.map V.str ++ [.str y]) := SqL.of upd_same
    generalize upd H p (.lst (ys.map V.str ++ [y].map V.str)) = H1 at S1 P1 ⊢
    refine ⟨p, _, _, rfl, P1, by rw [List.length_map]; omega, fun D hD => ?_⟩
    have S2 : Same H1 (upd H1 D (.lst (ys.map V.str))) := same_new hD
    have P2 : (upd H1 D (.lst (ys.map V.str))) D = some (.lst (ys.map V.str)) := upd_same
    generalize upd H1 D (.lst (ys.map V.str)) = H2 at S2 P2 ⊢
    refine ⟨_, _, rfl, _, _, rfl, rfl, ?_⟩
    have S12 := S1.trans S2
    refine ⟨fun σ J => ∃ (y1 : Option V) (F : Addr) (vs : List V), σ = [some (.str t), y1, some (.str y), some (.ref F), none, none] ∧ Same H J ∧ SqL K J F vs ∧ Paired (LineAt K J) vs (linesT t), ?_, ?_⟩
    · -- the lines' words
      refine ⟨_, rfl, rfl, _, rfl, ?_⟩
      by_cases ey : y = ""
      · rw [decide_eq_true (show V.str y = V.str "" by rw [ey])]
        refine iteT ⟨_, rfl, D, rfl, ⟨_, SqL.of P2⟩, fun F hF => ?_⟩
        have lz : (ys.map V.str).length = ys.length := List.length_map _
        have pz : ∀ p ∈ ys, p.length ≤ 900000 := fun p hp => plen p (List.mem_append_left _ hp)
        have cz : ys.length ≤ 900002 := by omega
        refine lc_list (K := K) (a := D) (xs := ys.map V.str) (fun i J => ∃ vs : List V, Same H2 J ∧ J F = some (.lst vs) ∧ vs.length = i ∧ Paired (fun (v : V) (ws : List Str) => ∃ q, v = .ref q ∧ q ≠ F ∧ J q = some (.lst (ws.map V.str))) vs ((ys.take i).map fun p => Txt.split p " ")) ⟨[], same_new hF, upd_same, rfl, .nil⟩ (fun i J _ ⟨_, S, _⟩ => sameL S (SqL.of P2)) ?_ ?_
        · rintro i x J hi ⟨vs, S, hJ, lv, pv⟩
          have hi' : i < ys.length := by rw [← lz]; exact (List.getElem?_eq_some_iff.mp hi).1
          rw [List.getElem?_map, List.getElem?_eq_getElem hi'] at hi
          cases hi
          have lj := pz _ (List.getElem_mem hi')
          refine ⟨rfl, ?_⟩
          unfold tYes
          refine iteT ⟨_, rfl, ⟨_, rfl⟩, _, _, rfl, rfl, rfl, Nat.le_trans (Nat.add_le_add_right lj 2) (by decide), fun q5 h5 => ?_⟩
          have nF : F ≠ q5 := ne_of_none hJ h5
          refine ⟨vs, by rw [upd_ne nF]; exact hJ, Nat.lt_of_lt_of_le (by omega : vs.length < 1800000) (by decide), vs ++ [.ref q5], write_sameW (S.trans (same_new h5)) hF, upd_same, by rw [List.length_append, List.length_singleton, lv], ?_⟩
          rw [List.take_add_one, List.getElem?_eq_getElem hi', List.map_append]
          refine paired_snoc (Paired.mapP pv fun v ws ⟨q, e1, e2, e3⟩ => ⟨q, e1, e2, ?_⟩) ⟨q5, rfl, nF.symm, ?_⟩
          · rw [upd_ne e2, upd_ne (ne_of_none e3 h5)]
            exact e3
          · rw [upd_ne nF.symm, upd_same]
        · rintro J3 ⟨vs, S, hJ, lv, pv⟩
          rw [lz, List.take_length] at pv
          refine ⟨_, F, vs, rfl, S12.trans S, SqL.of hJ, ?_⟩
          rw [eL, if_pos ey]
          exact Paired.mapP pv fun v ws ⟨q, e1, e2, e3⟩ => ⟨q, e1, SqL.of e3⟩
      · rw [decide_eq_false (show ¬ V.str y = V.str "" from fun e => ey (V.str.inj e))]
        refine iteF ⟨_, rfl, _, rfl, by show 1 ≤ sizeLine; decide, fun l hl => ?_⟩
        have nl : D ≠ l := ne_of_none P2 hl
        have S3 : Same H2 (upd H2 l (.lst [.str y])) := same_new hl
        refine ⟨D, l, _, _, rfl, rfl, S3 _ _ P2, upd_same, Nat.le_trans (by rw [List.length_map, List.length_singleton]; omega : _ ≤ 1800000) (by decide), fun A hA => ?_⟩
        have S4 := S3.trans (same_new (o := .lst (ys.map V.str ++ [.str y])) hA)
        have PA : SqL K (upd (upd H2 l (.lst [.str y])) A (.lst (ys.map V.str ++ [.str y]))) A ((ys ++ [y]).map V.str) := by
          rw [List.map_append]
          exact SqL.of upd_same
        have S15 := S12.trans S4
        show (∃ a, V.ref A = V.ref a ∧ _)
        generalize upd (upd H2 l (.lst [V.str y])) A (.lst (ys.map V.str ++ [V.str y])) = J5 at S4 PA S15 ⊢
        refine ⟨A, rfl, ⟨_, PA⟩, fun F hF => ?_⟩
        have lz : ((ys ++ [y]).map V.str).length = (ys ++ [y]).length := List.length_map _
        have pz : ∀ p ∈ (ys ++ [y]), p.length ≤ 900000 := plen
        have cz : (ys ++ [y]).length ≤ 900002 := by simp only [List.length_append, List.length_singleton]; omega
        refine lc_list (K := K) (a := A) (xs := (ys ++ [y]).map V.str) (fun i J => ∃ vs : List V, Same J5 J ∧ J F = some (.lst vs) ∧ vs.length = i ∧ Paired (fun (v : V) (ws : List Str) => ∃ q, v = .ref q ∧ q ≠ F ∧ J q = some (.lst (ws.map V.str))) vs (((ys ++ [y]).take i).map fun p => Txt.split p " ")) ⟨[], same_new hF, upd_same, rfl, .nil⟩ (fun i J _ ⟨_, S, _⟩ => sameL S PA) ?_ ?_
        · rintro i x J hi ⟨vs, S, hJ, lv, pv⟩
          have hi' : i < (ys ++ [y]).length := by rw [← lz]; exact (List.getElem?_eq_some_iff.mp hi).1
          rw [List.getElem?_map, List.getElem?_eq_getElem hi'] at hi
          cases hi
          have lj := pz _ (List.getElem_mem hi')
          refine ⟨rfl, ?_⟩
          unfold tYes
          refine iteT ⟨_, rfl, ⟨_, rfl⟩, _, _, rfl, rfl, rfl, Nat.le_trans (Nat.add_le_add_right lj 2) (by decide), fun q5 h5 => ?_⟩
          have nF : F ≠ q5 := ne_of_none hJ h5
          refine ⟨vs, by rw [upd_ne nF]; exact hJ, Nat.lt_of_lt_of_le (by omega : vs.length < 1800000) (by decide), vs ++ [.ref q5], write_sameW (S.trans (same_new h5)) hF, upd_same, by rw [List.length_append, List.length_singleton, lv], ?_⟩
          rw [List.take_add_one, List.getElem?_eq_getElem hi', List.map_append]
          refine paired_snoc (Paired.mapP pv fun v ws ⟨q, e1, e2, e3⟩ => ⟨q, e1, e2, ?_⟩) ⟨q5, rfl, nF.symm, ?_⟩
          · rw [upd_ne e2, upd_ne (ne_of_none e3 h5)]
            exact e3
          · rw [upd_ne nF.symm, upd_same]
        · rintro J3 ⟨vs, S, hJ, lv, pv⟩
          rw [lz, List.take_length] at pv
          refine ⟨_, F, vs, rfl, S15.trans S, SqL.of hJ, ?_⟩
          rw [eL, if_neg ey]
          exact Paired.mapP pv fun v ws ⟨q, e1, e2, e3⟩ => ⟨q, e1, SqL.of e3⟩
    · rintro σ J ⟨y1, F, vs, rfl, S, hF, pl⟩
      have G0 := Grow.of_same S
      have lws : ∀ ws ∈ linesT t, ws.length ≤ 1000000 := fun ws hw => by
        rw [eL] at hw
        obtain ⟨p', hp', rfl⟩ := List.mem_map.mp hw
        have hp2 : p' ∈ ys ++ [y] := by
          split at hp'
          · exact List.mem_append_left _ hp'
          · exact hp'
        have a := PyProof.Rows.split_le p' " "
        have b := plen p' hp2
        omega
      refine ⟨_, rfl, F, vs, linesT t, rfl, hF, pl, lws, G0.t.tab hT, fun fw J4 G4 => ?_, fun n kk e => fun J' d G hd => kE n kk (by unfold readF; rw [e]) J' d (G0.trans G) hd⟩
      have lf : ∀ (i : Nat) (ws : List Str), (linesT t)[i]? = some ws → lineFault i ws = none := fun i ws h => by
        have := faultW_none fw i ws h
        rw [Nat.zero_add] at this
        exact this
      have rowl : ∀ ws ∈ (linesT t).drop 1, ∃ (d : Str) (x y : Int), ws = [d, dg x, dg y] ∧ deedOk d ∧ 0 ≤ x ∧ x ≤ 5 ∧ 0 ≤ y ∧ y ≤ 5 := fun ws hw => by
        obtain ⟨i, hi⟩ := List.getElem?_of_mem hw
        rw [List.getElem?_drop] at hi
        have z := lf _ ws hi
        unfold lineFault at z
        rw [if_neg (by omega)] at z
        split at z
        · cases z
        · exact row_words z
      have F4 : SqL K J4 F vs := G4.seq hF
      have pl4 : Paired (LineAt K J4) vs (linesT t) := Paired.mapP pl fun _ _ ⟨q, e, a⟩ => ⟨q, e, G4.seq a⟩
      refine ⟨_, rfl, F, vs, linesT t, rfl, F4, pl4, fun ws hw => ?_, fun fn J5 G5 => ?_, fun n kk e => fun J' d G hd => kE n kk (by unfold readF; rw [fw, e]) J' d ((G0.trans G4).trans G) hd⟩
      · obtain ⟨d, x, y, rfl, _, x0, x5, y0, y5⟩ := rowl ws hw
        exact ⟨d, x, y, [], rfl, x0, by omega, y0, by omega⟩
      have F5 : SqL K J5 F vs := G5.seq F4
      have pl5 : Paired (LineAt K J5) vs (linesT t) := Paired.mapP pl4 fun _ _ ⟨q, e, a⟩ => ⟨q, e, G5.seq a⟩
      have G05 := (G0.trans G4).trans G5
      have lvs := paired_len pl5
      have rf : readF t = if (linesT t).length < 2 ∨ endsT t = false then some ((linesT t).length, 0) else none := by
        unfold readF
        rw [fw, fn]
      refine ⟨_, rfl, F, _, rfl, .inl F5, _, _, rfl, rfl, _, rfl, ?_⟩
      rw [lvs]
      have raise : ((linesT t).length < 2 ∨ endsT t = false) → ∀ (d : Addr), J5 d = none → E (.ref T.C_BadText) (some d) (upd J5 d (.xd [("word", .int 0), ("line", .int ((linesT t).length : Int))])) := fun c d hd => by
        rw [if_pos c] at rf
        exact kE _ 0 rf _ d (G05.trans (Grow.new hd)) upd_same
      by_cases c2 : ((linesT t).length : Int) < 2
      · rw [decide_eq_true c2]
        refine iteT (iteT ⟨_, rfl, F, _, rfl, .inl F5, err_two fun d hd => ?_⟩)
        rw [lvs]
        exact raise (.inl (by omega)) d hd
      · rw [decide_eq_false c2]
        refine iteF ⟨_, rfl, rfl, _, rfl, ?_⟩
        by_cases ey : y = ""
        · rw [decide_eq_true (show V.str y = V.str "" by rw [ey])]
          refine iteF ?_
          have ok : readF t = none := by
            rw [rf, if_neg]
            rintro (c | c)
            · omega
            · rw [eE, decide_eq_true ey] at c
              cases c
          -- the house, the rows
          obtain ⟨l0, lr, ell⟩ : ∃ l0 lr, linesT t = l0 :: lr := by
            cases h : linesT t with
            | nil => rw [h] at c2; exact absurd (by decide : (([] : List (List Str)).length : Int) < 2) c2
            | cons a b => exact ⟨a, b, rfl⟩
          have hf0 : houseFault l0 = none := by
            have := lf 0 l0 (by rw [ell]; rfl)
            unfold lineFault at this
            rwa [if_pos rfl] at this
          have hw0 : wrongN l0 HW = none ∨ ∃ k, wrongN l0 HW = some k ∧ 3 < k := by
            unfold houseFault at hf0
            cases e : wrongN l0 HW with
            | none => exact .inl rfl
            | some k =>
              rw [e] at hf0
              simp only at hf0
              split at hf0
              · split at hf0 <;> cases hf0
              · cases hf0
          obtain ⟨z, r, g, rest, e0, z2, z4, r1, r6, g0, g3⟩ := house_words hw0
          have w1 : wordT t 1 = z := by
            unfold wordT
            rw [ell, e0]
            exact numOf_dg (by omega) (by omega)
          have w2 : wordT t 2 = r := by
            unfold wordT
            rw [ell, e0]
            exact numOf_dg (by omega) (by omega)
          have w3 : wordT t 3 = g := by
            unfold wordT
            rw [ell, e0]
            exact numOf_dg (by omega) (by omega)
          have er : rowsT t = lr.map rowT := by
            unfold rowsT
            rw [ell]
            rfl
          rw [ell] at pl5 lvs rowl
          have rowl' : ∀ ws ∈ lr, ∃ (d : Str) (x y : Int), ws = [d, dg x, dg y] ∧ deedOk d ∧ 0 ≤ x ∧ x ≤ 5 ∧ 0 ≤ y ∧ y ≤ 5 := rowl
          cases vs with
          | nil => cases pl5
          | cons v0 vr =>
          cases pl5 with
          | cons a0 pt =>
          obtain ⟨q0, rfl, sq0⟩ := a0
          have lvr : vr.length = lr.length := by rw [List.length_cons, List.length_cons] at lvs; omega
          have lrl : lr.length ≤ 900002 := by
            have a : (linesT t).length ≤ 900002 := by
              rw [eL, List.length_map, if_pos ey]
              omega
            rw [ell, List.length_cons] at a
            omega
          have k' := k ok
          rw [w1, w2, w3, er] at k'
          have l0l : l0.length ≤ 1000000 := lws l0 (by rw [ell]; exact List.mem_cons_self)
          refine ⟨_, rfl, F, _, 0, _, rfl, rfl, F5, atI_nat (j := 0) rfl, q0, l0, z, r, g, rfl, sq0, l0l, (by rw [e0]; rfl), by omega, by omega, by omega, by omega, by omega, by omega, G05.t.tab hT, fun th J6 G6 h6 hn6 => ?_⟩
          refine ⟨_, rfl, 1, rfl, F, _, rfl, G6.seq F5, fun c hc => ?_⟩
          rw [cut1]
          have G7 : Grow J6 (upd J6 c (.lst vr)) := Grow.new hc
          have C7 : SqL K (upd J6 c (.lst vr)) c vr := SqL.of upd_same
          show (_ : Prop)
          generalize hJ7 : upd J6 c (.lst ((V.ref q0 :: vr).drop 1)) = J7
          have hJ7' : upd J6 c (.lst vr) = J7 := hJ7
          rw [hJ7'] at G7 C7
          refine ⟨c, rfl, ⟨_, C7⟩, fun M hM => ?_⟩
          have pt7 : Paired (LineAt K J7) vr lr := Paired.mapP pt fun _ _ ⟨q, e, a⟩ => ⟨q, e, G7.seq (G6.seq a)⟩
          refine lc_list (K := K) (a := c) (xs := vr) (fun i J => ∃ us : List V, Same J7 J ∧ J M = some (.lst us) ∧ us.length = i ∧ Paired (fun (v : V) (y : Row) => ∃ b, v = .ref b ∧ b ≠ M ∧ J b = some (.tup [.str y.1, .int y.2.1, .int y.2.2])) us ((lr.map rowT).take i)) ⟨[], same_new hM, upd_same, rfl, .nil⟩ (fun i J _ ⟨_, S, _⟩ => sameL S C7) ?_ ?_
          · rintro i x J hi ⟨us, S, hJM, lu, pu⟩
            have hi' : i < lr.length := by rw [← lvr]; exact (List.getElem?_eq_some_iff.mp hi).1
            obtain ⟨ws, hw, q, rfl, sq⟩ := paired_at pt7 hi
            obtain ⟨d, x, y, ew, hd, x0, x5, y0, y5⟩ := rowl' ws (List.mem_of_getElem? hw)
            subst ew
            have erow : (lr.map rowT)[i]? = some (d, x, y) := by
              rw [List.getElem?_map, hw]
              show some (rowT [d, dg x, dg y]) = _
              have ex : numOf (dg x) = x := numOf_dg x0 (by omega)
              have ey' : numOf (dg y) = y := numOf_dg y0 (by omega)
              show some (d, numOf (dg x), numOf (dg y)) = _
              rw [ex, ey']
            refine ⟨rfl, ?_⟩
            unfold tYes
            refine iteT ⟨_, rfl, q, d, x, y, [], rfl, sameL S sq, x0, by omega, y0, by omega, fun tt ht => ?_⟩
            have nM : M ≠ tt := ne_of_none hJM ht
            refine ⟨us, by rw [upd_ne nM]; exact hJM, Nat.lt_of_lt_of_le (by omega : us.length < 1800000) (by decide), us ++ [.ref tt], write_sameW (S.trans (same_new ht)) hM, upd_same, by rw [List.length_append, List.length_singleton, lu], ?_⟩
            rw [List.take_add_one, erow]
            refine paired_snoc (Paired.mapP pu fun v y ⟨b, e1, e2, e3⟩ => ⟨b, e1, e2, ?_⟩) ⟨tt, rfl, nM.symm, ?_⟩
            · rw [upd_ne e2, upd_ne (ne_of_none e3 ht)]
              exact e3
            · rw [upd_ne nM.symm, upd_same]
          · rintro J8 ⟨us, S', hJM, lu, pu⟩
            have lmr : (lr.map rowT).length = lr.length := List.length_map _
            rw [lvr, ← lmr, List.take_length] at pu
            refine ⟨M, us, rfl, .inl ⟨SqL.of hJM, fun l hl => ?_⟩⟩
            refine ⟨by show 2 ≤ sizeLine; decide, fun q8 h8 => ?_⟩
            have S9 : Same J8 (upd J8 l (.tup us)) := same_new hl
            have S10 : Same (upd J8 l (.tup us)) (upd (upd J8 l (.tup us)) q8 (.tup [.ref th, .ref l])) := same_new h8
            have G10 : Grow J6 (upd (upd J8 l (.tup us)) q8 (.tup [.ref th, .ref l])) := (G7.trans (Grow.of_same S')).trans (Grow.of_same (S9.trans S10))
            refine k' q8 th l _ ((G05.trans G6).trans G10) upd_same ?_ ?_
            · exact .tup (SqT.of (G10.at h6)) (.cons (.int z) (.cons (.int r) (.cons (.int g) .nil)))
            · refine .tup (SqT.of (S10 _ _ upd_same)) (rows_dp2 (Paired.mapP pu fun v y ⟨b, e1, e2, e3⟩ => ⟨b, e1, S10 _ _ (S9 _ _ e3)⟩))
        · rw [decide_eq_false (show ¬ V.str y = V.str "" from fun e => ey (V.str.inj e))]
          refine iteT ⟨_, rfl, F, _, rfl, .inl F5, err_two fun d hd => ?_⟩
          rw [lvs]
          exact raise (.inr (by rw [eE, decide_eq_false ey])) d hd
end

/-! ### what the law is told of a text -/
def toldD (t : Str) : PyData := match readF t with
  | some e => .list [.int (e.1 : Int), .int (e.2 : Int)]
  | none => .tuple [houseT (wordT t 1) (wordT t 2) (wordT t 3), tableD (rowsT t)]
def sp_told (K : PySem.W.Frag) (tb : Addr) : Sp := fun vs H Q _ => ∃ t : Str, vs = [.str t] ∧ t.length ≤ 900000 ∧ (Txt.split t "\n").length ≤ 10001 ∧ GxR.TabG H tb ∧ ∀ (v : V) (J : Hp), Grow H J → Dp K J v (toldD t) → Q v J
section
variable {P : Program} {w : World} {K : PySem.W.Frag} {mg : Str → Option Value} {base : Heap}
theorem ok_told (T : Txt K mg) (TB : GxR.TabB base mg T.c_house_of T.p_house_of) : FnOk P w K mg base CX0 8 T.a_told_of T.d_told_of ["_law_text_here"] (sp_told K T.p_house_of) := by
  have G_read_table : FnOk P w K mg base (L2.CX P w) 6 T.a_read_table T.d_read_table ["text"] (sp_readX K T.p_house_of T.C_BadText) := ok_readX T TB
  refine T.F_told_of.ok sc_told_of (fun vs H Q E h => ?_) (fun cdv A outer s H vs Q E hr h => ?_)
  · obtain ⟨t, rfl, _⟩ := h
    rfl
  · obtain ⟨t, rfl, lt, cnt, hT, k⟩ := h
    refine ⟨_, (pss_one (ps_try_as (i := 1) (Wout := fun _ _ _ _ => False) rfl rfl sc_told_of.nd rfl rfl ⟨rfl, by decide, Or.inl T.E_BadText.gC⟩ takes0 (fun W pn xe tk _ => (pss_one (ps_ret (pe_callS G_read_table (hr.mono (by omega)) (by rfl) T.g_read_table T.F_read_table.kp T.b_read_table (fun σ => passAt tk σ) (pa_cons (pv 0) pa_nil))))) (fun a oe cls d pn hz hf => (pss_one (ps_ret (pe_ifExp (PW.pt (pw_and (pt_val (pe_callB (id := "isinstance") (call_isX T.E_BadText.ec hz hf) (by rfl) T.m_isinstance (by decide +kernel) (pa_cons (pv 1) (pa_cons (pe_glob (v := .ref T.B_BadText) (by rfl) T.E_BadText.gB rfl) pa_nil)))) (pw_and1 (pt_val (pe_callB (id := "isinstance") (call_isX T.E_BadText.ec hz hf) (by rfl) T.m_isinstance (by decide +kernel) (pa_cons (pv 1) (pa_cons (pe_bltn (v := .ty "ValueError") (by rfl) T.m_ValueError (by decide +kernel) rfl) pa_nil))))))) (pe_lst (pa_cons (pe_xf T.E_BadText.xf T.E_BadText.nf hz hf (pv 1)) (pa_cons (pe_xf T.E_BadText.xf T.E_BadText.ng hz hf (pv 1)) pa_nil))) (pe_lst (pa_cons pe_str pa_nil)))))))), ?_⟩
    refine ⟨_, rfl, t, rfl, lt, cnt, hT, fun rn q h tt J G hq dh dt => ?_, fun n kk re J d G hd => ?_⟩
    · refine k (.ref q) J G ?_
      unfold toldD
      rw [rn]
      exact .tup (SqT.of hq) (.cons dh (.cons dt .nil))
    · refine ⟨true, T.E_BadText.te, fun _ a ha => ?_, fun q => nomatch q⟩
      refine ⟨_, rfl, .ref T.B_BadText, .ref T.B_BadText, true, d, _, rfl, rfl, rfl, hd, fun u r => r, T.E_BadText.kB, _, rfl, iteT ?_⟩
      refine ⟨_, rfl, .ty "ValueError", .type "ValueError", true, d, _, rfl, rfl, rfl, hd, fun u r => r, T.E_BadText.kV, _, rfl, iteT ?_⟩
      refine ⟨_, rfl, rfl, rfl, d, _, _, rfl, hd, rfl, _, rfl, rfl, rfl, d, _, _, rfl, hd, rfl, by show 2 ≤ sizeLine; decide, fun l hl => ?_⟩
      refine k (.ref l) _ (G.trans (Grow.new hl)) ?_
      unfold toldD
      rw [re]
      exact .lst (SqL.of upd_same) (.cons (.int _) (.cons (.int _) .nil))
end

/-! ### the law's own look at a text: digits -/
def digits10 : List Str := ["0", "1", "2", "3", "4", "5", "6", "7", "8", "9"]
def digitF (ws : List Str) (n : Nat) (lo hi : Int) : Option Int := if ws.getD n "" ∈ digits10 ∧ lo ≤ numOf (ws.getD n "") ∧ numOf (ws.getD n "") ≤ hi then some (numOf (ws.getD n "")) else none
def optI : Option Int → V
  | none => .non
  | some i => .int i
theorem digits_all : ∀ w ∈ digits10, (∃ c : Nat, w = ⟨#[c]⟩ ∧ c ∈ TL.tl "0123456789") ∧ PySem.intText? w = some (numOf w) ∧ w.length = 1 := by
  intro w hw
  simp only [digits10, List.mem_cons, List.not_mem_nil, or_false] at hw
  rcases hw with e | e | e | e | e | e | e | e | e | e <;> rw [e]
  · exact ⟨⟨48, by decide +kernel, by decide +kernel⟩, by decide +kernel, by decide +kernel⟩
  · exact ⟨⟨49, by decide +kernel, by decide +kernel⟩, by decide +kernel, by decide +kernel⟩
  · exact ⟨⟨50, by decide +kernel, by decide +kernel⟩, by decide +kernel, by decide +kernel⟩
  · exact ⟨⟨51, by decide +kernel, by decide +kernel⟩, by decide +kernel, by decide +kernel⟩
  · exact ⟨⟨52, by decide +kernel, by decide +kernel⟩, by decide +kernel, by decide +kernel⟩
  · exact ⟨⟨53, by decide +kernel, by decide +kernel⟩, by decide +kernel, by decide +kernel⟩
  · exact ⟨⟨54, by decide +kernel, by decide +kernel⟩, by decide +kernel, by decide +kernel⟩
  · exact ⟨⟨55, by decide +kernel, by decide +kernel⟩, by decide +kernel, by decide +kernel⟩
  · exact ⟨⟨56, by decide +kernel, by decide +kernel⟩, by decide +kernel, by decide +kernel⟩
  · exact ⟨⟨57, by decide +kernel, by decide +kernel⟩, by decide +kernel, by decide +kernel⟩
theorem sign_digit {c : Nat} : c ∈ TL.tl "0123456789" ↔ (⟨#[c]⟩ : Str) ∈ digits10 := by
  constructor
  · intro h
    have e : TL.tl "0123456789" = [48, 49, 50, 51, 52, 53, 54, 55, 56, 57] := by decide +kernel
    rw [e] at h
    simp only [List.mem_cons, List.not_mem_nil, or_false] at h
    rcases h with e | e | e | e | e | e | e | e | e | e <;> (rw [e]; decide +kernel)
  · intro h
    obtain ⟨⟨c', e, h'⟩, _⟩ := digits_all _ h
    have e' : c = c' := by
      have := congrArg TL.tl e
      injection this
    rw [e']
    exact h'
theorem one_sign {w : Str} (h : w.length = 1) : ∃ c, w = ⟨#[c]⟩ := by
  rw [TL.len_tl] at h
  obtain ⟨c, hc⟩ := List.length_eq_one_iff.mp h
  exact ⟨c, TL.ext_tl hc⟩
def sp_digit (K : PySem.W.Frag) : Sp := fun vs H Q _ => ∃ (a : Addr) (ws : List Str) (n : Nat) (lo hi : Int), vs = [.ref a, .int (n : Int), .int lo, .int hi] ∧ H a = some (.lst (ws.map V.str)) ∧ ws.length ≤ 1000000 ∧ n ≤ 8 ∧ (∀ w ∈ ws, w.length ≤ 1000000) ∧ ∀ J, Same H J → Q (optI (digitF ws n lo hi)) J
section
variable {P : Program} {w : World} {K : PySem.W.Frag} {mg : Str → Option Value} {base : Heap}
theorem ok_digit (T : Txt K mg) : FnOk P w K mg base CX0 1 T.a_digit T.d_digit ["_law_words_here", "_law_at", "_law_low", "_law_high"] (sp_digit K) := by
  refine T.F_digit.ok sc_digit (fun vs H Q E h => ?_) (fun cdv A outer s H vs Q E hr h => ?_)
  · obtain ⟨_, _, _, _, _, rfl, _⟩ := h
    rfl
  · obtain ⟨a, ws, n, lo, hi, rfl, ha, lw, n8, l1', k⟩ := h
    refine ⟨_, (pss_cons (ps_set (i := 4) sc_digit.nd rfl (Or.inl rfl) (pe_ix ix_list (pe_op op_cat (pv 0) (pe_op op_rep (pe_lst (pa_cons pe_str pa_nil)) pe_int)) (pe_callB (id := "min") (call_min2 rfl) (by rfl) T.m_min (by decide +kernel) (pa_cons (pv 1) (pa_cons (pe_callB (id := "len") call_len_seq (by rfl) T.m_len (by decide +kernel) (pa_cons (pv 0) pa_nil)) pa_nil))) (fun _ _ => rfl)))
      (pss_cons (ps_if (PW.pt (pw_or (pt_cmpR op_ne (pe_callB (id := "len") call_len_str (by rfl) T.m_len (by decide +kernel) (pa_cons (pv 4) pa_nil)) pe_int (nomark _)) (pw_or (pt_cmpR op_notIn_sign (pv 4) pe_str (by rfl)) (pw_or1 (pt_not (pt_chain op_le op_le (pv 2) (pe_callTy (T := "int") call_int_str (by rfl) T.m_int (by decide +kernel) (pa_cons (pv 4) pa_nil)) (pv 3)))))))
        (pss_one (ps_ret pe_non))
        pss_nil)
      (pss_one (ps_ret (pe_callTy (T := "int") call_int_str (by rfl) T.m_int (by decide +kernel) (pa_cons (pv 4) pa_nil)))))), ?_⟩
    -- the word
    refine ⟨_, rfl, by show 1 ≤ sizeLine; decide, fun l1 h1 => ?_⟩
    have S1 : Same H (upd H l1 (.lst [.str ""])) := same_new h1
    refine ⟨l1, 9, _, rfl, rfl, upd_same, by decide, by decide, by show 1 * 9 ≤ sizeLine; decide, fun l2 h2 => ?_⟩
    have er : (List.replicate (9 : Int).toNat [V.str ""]).flatten = List.replicate 9 (V.str "") := rfl
    rw [er]
    have S2 : Same H (upd (upd H l1 (.lst [.str ""])) l2 (.lst (List.replicate 9 (V.str "")))) := S1.trans (same_new h2)
    refine ⟨a, l2, _, _, rfl, rfl, S2 _ _ ha, upd_same, Nat.le_trans (by rw [List.length_map, List.length_replicate]; omega : _ ≤ 2000000) (by decide), fun l3 h3 => ?_⟩
    have S3 : Same H (upd (upd (upd H l1 (.lst [.str ""])) l2 (.lst (List.replicate 9 (V.str "")))) l3 (.lst (ws.map V.str ++ List.replicate 9 (V.str "")))) := S2.trans (same_new h3)
    have L3 : (upd (upd (upd H l1 (.lst [.str ""])) l2 (.lst (List.replicate 9 (V.str "")))) l3 (.lst (ws.map V.str ++ List.replicate 9 (V.str "")))) l3 = some (.lst (ws.map V.str ++ List.replicate 9 (V.str ""))) := upd_same
    show tCB _ _ _ (upd (upd (upd H l1 (.lst [.str ""])) l2 (.lst (List.replicate 9 (V.str "")))) l3 (.lst (ws.map V.str ++ List.replicate 9 (V.str "")))) _
    generalize upd (upd (upd H l1 (.lst [.str ""])) l2 (.lst (List.replicate 9 (V.str "")))) l3 (.lst (ws.map V.str ++ List.replicate 9 (V.str ""))) = J at S3 L3 ⊢
    refine ⟨_, rfl, _, rfl, a, _, rfl, .inl (SqL.of (S3 _ _ ha)), _, _, rfl, ?_⟩
    have lm : (ws.map V.str).length = ws.length := List.length_map _
    rw [lm]
    have hat : atI (ws.map V.str ++ List.replicate 9 (V.str "")) (if (ws.length : Int) < (n : Int) then (ws.length : Int) else (n : Int)) = some (.str (ws.getD n "")) := by
      by_cases c : n < ws.length
      · rw [if_neg (by omega)]
        refine atI_nat ?_
        rw [List.getElem?_append_left (by rw [lm]; exact c), List.getElem?_map, List.getElem?_eq_getElem c, List.getD_eq_getElem?_getD, List.getElem?_eq_getElem c]
        rfl
      · have e : (if (ws.length : Int) < (n : Int) then (ws.length : Int) else (n : Int)) = ((ws.length : Nat) : Int) := by split <;> omega
        rw [e]
        refine atI_nat ?_
        have e2 : ws.getD n "" = "" := by
          rw [List.getD_eq_getElem?_getD]
          cases h : ws[n]? with
          | none => rfl
          | some w => exact absurd (List.getElem?_eq_some_iff.mp h).1 c
        rw [List.getElem?_append_right (by rw [lm]; exact Nat.le_refl _), lm, Nat.sub_self, e2]
        rfl
    refine ⟨l3, _, _, _, rfl, rfl, SqL.of L3, hat, ?_⟩
    have lb : (ws.getD n "").length ≤ sizeLine := by
      rw [List.getD_eq_getElem?_getD]
      cases e : ws[n]? with
      | none => exact Nat.zero_le _
      | some w => exact Nat.le_trans (l1' w (List.mem_of_getElem? e)) (by decide)
    have kD := k J S3
    unfold digitF at kD
    generalize ws.getD n "" = w at lb kD ⊢
    refine ⟨_, rfl, w, rfl, lb, rfl, _, rfl, ?_⟩
    by_cases h1w : w.length = 1
    · obtain ⟨c, rfl⟩ := one_sign h1w
      rw [h1w]
      refine iteNS rfl ?_
      refine ⟨_, rfl, c, "0123456789", rfl, rfl, _, rfl, ?_⟩
      by_cases hc : c ∈ TL.tl "0123456789"
      · refine iteNS hc ?_
        have hd := sign_digit.mp hc
        obtain ⟨_, hi1, hl1⟩ := digits_all _ hd
        have l640 : (⟨#[c]⟩ : Str).length ≤ 640 := by rw [hl1]; decide
        refine ⟨_, rfl, _, rfl, _, _, rfl, hi1, l640, _, _, rfl, rfl, _, rfl, ?_⟩
        generalize numOf ⟨#[c]⟩ = v at hi1 kD ⊢
        by_cases c1 : lo ≤ v
        · rw [decide_eq_true c1]
          refine iteT ⟨_, rfl, _, _, rfl, rfl, _, rfl, ?_⟩
          by_cases c2 : v ≤ hi
          · rw [if_pos ⟨hd, c1, c2⟩] at kD
            rw [decide_eq_true c2]
            exact iteF ⟨_, rfl, _, _, rfl, hi1, l640, kD⟩
          · rw [if_neg (fun z => c2 z.2.2)] at kD
            rw [decide_eq_false c2]
            exact iteT kD
        · rw [if_neg (fun z => c1 z.2.1)] at kD
          rw [decide_eq_false c1]
          exact iteF ⟨_, rfl, iteT kD⟩
      · rw [if_neg (fun z => hc (sign_digit.mpr z.1))] at kD
        have e : (!decide (c ∈ (Str.ofString "0123456789").cps.toList)) = true := by
          rw [decide_eq_false hc]
          rfl
        rw [e]
        exact iteT (iteT kD)
    · rw [if_neg (fun z => h1w (digits_all _ z.1).2.2)] at kD
      rw [decide_eq_false (show ¬ V.int (w.length : Int) = V.int 1 from fun e => h1w (by have := V.int.inj e; omega))]
      exact iteT (iteT kD)
end

/-! ### the law's own look: the line of a house, of a row -/
theorem wrong_first {ws : List Str} {ps : List (List Str)} {i : Nat} (hp : ∀ p ∈ ps, ("" : Str) ∉ p) (hi : i < ps.length) (hin : ∀ j, j < i → ws.getD j "" ∈ ps.getD j []) (hno : ws.getD i "" ∉ ps.getD i []) : wrongN ws ps = some i := by
  have skip := wrong_skip i ws ps fun j hj => by
    have hj' : j < ps.length := by omega
    have a := hin j hj
    rw [List.getD_eq_getElem?_getD, List.getD_eq_getElem?_getD, List.getElem?_eq_getElem hj'] at a
    cases e : ws[j]? with
    | none =>
      rw [e] at a
      exact absurd a (hp _ (List.getElem_mem hj'))
    | some w =>
      rw [e] at a
      exact ⟨w, _, rfl, List.getElem?_eq_getElem hj', a⟩
  rw [skip, List.drop_eq_getElem_cons hi]
  rw [List.getD_eq_getElem?_getD, List.getD_eq_getElem?_getD, List.getElem?_eq_getElem hi] at hno
  cases hd : ws.drop i with
  | nil => show (some (0 + i)) = _; rw [Nat.zero_add]
  | cons v r =>
    have hv : ws[i]? = some v := by
      rw [← List.head?_drop, hd]
      rfl
    rw [hv] at hno
    have hno' : ¬ v ∈ ps[i] := hno
    show ((if v ∈ ps[i] then _ else some 0).map _) = _
    rw [if_neg hno']
    show some (0 + i) = _
    rw [Nat.zero_add]
theorem wrong_end {ws : List Str} {ps : List (List Str)} (hp : ∀ p ∈ ps, ("" : Str) ∉ p) (hin : ∀ j, j < ps.length → ws.getD j "" ∈ ps.getD j []) : wrongN ws ps = if ws.length = ps.length then none else some ps.length := by
  have ex : ∀ j, j < ps.length → ∃ w, ws[j]? = some w := fun j hj => by
    have a := hin j hj
    rw [List.getD_eq_getElem?_getD, List.getD_eq_getElem?_getD, List.getElem?_eq_getElem hj] at a
    cases e : ws[j]? with
    | none =>
      rw [e] at a
      exact absurd a (hp _ (List.getElem_mem hj))
    | some w => exact ⟨w, rfl⟩
  have skip := wrong_skip ps.length ws ps fun j hj => by
    obtain ⟨w, e⟩ := ex j hj
    have a := hin j hj
    rw [List.getD_eq_getElem?_getD, List.getD_eq_getElem?_getD, List.getElem?_eq_getElem hj, e] at a
    exact ⟨w, _, e, List.getElem?_eq_getElem hj, a⟩
  have le : ps.length ≤ ws.length := by
    cases h : ps.length with
    | zero => exact Nat.zero_le _
    | succ n =>
      obtain ⟨w, e⟩ := ex n (by omega)
      exact (List.getElem?_eq_some_iff.mp e).1
  rw [skip, List.drop_length]
  cases hd : ws.drop ps.length with
  | nil =>
    have := congrArg List.length hd
    rw [List.length_drop, List.length_nil] at this
    rw [if_pos (by omega)]
    rfl
  | cons v r =>
    have := congrArg List.length hd
    rw [List.length_drop, List.length_cons] at this
    rw [if_neg (by omega)]
    show some (0 + ps.length) = _
    rw [Nat.zero_add]
theorem digit_in {ws : List Str} {n : Nat} {lo hi : Int} {l : List Str} (h : ∀ w, (w ∈ digits10 ∧ lo ≤ numOf w ∧ numOf w ≤ hi) ↔ w ∈ l) : digitF ws n lo hi = if ws.getD n "" ∈ l then some (numOf (ws.getD n "")) else none := by
  unfold digitF
  by_cases c : ws.getD n "" ∈ l
  · rw [if_pos c, if_pos ((h _).mpr c)]
  · rw [if_neg c, if_neg (fun z => c ((h _).mp z))]
theorem digit_list {lo hi : Int} {l : List Str} (h1 : ∀ w ∈ digits10, lo ≤ numOf w → numOf w ≤ hi → w ∈ l) (h2 : ∀ w ∈ l, w ∈ digits10 ∧ lo ≤ numOf w ∧ numOf w ≤ hi) : ∀ w, (w ∈ digits10 ∧ lo ≤ numOf w ∧ numOf w ≤ hi) ↔ w ∈ l := fun w => ⟨fun z => h1 w z.1 z.2.1 z.2.2, h2 w⟩
theorem dl24 : ∀ w, (w ∈ digits10 ∧ 2 ≤ numOf w ∧ numOf w ≤ 4) ↔ w ∈ ([("2" : Str), "3", "4"] : List Str) := digit_list (by decide +kernel) (by decide +kernel)
theorem dl16 : ∀ w, (w ∈ digits10 ∧ 1 ≤ numOf w ∧ numOf w ≤ 6) ↔ w ∈ ([("1" : Str), "2", "3", "4", "5", "6"] : List Str) := digit_list (by decide +kernel) (by decide +kernel)
theorem dl03 : ∀ w, (w ∈ digits10 ∧ 0 ≤ numOf w ∧ numOf w ≤ 3) ↔ w ∈ ([("0" : Str), "1", "2", "3"] : List Str) := digit_list (by decide +kernel) (by decide +kernel)
theorem dl05 : ∀ w, (w ∈ digits10 ∧ 0 ≤ numOf w ∧ numOf w ≤ 5) ↔ w ∈ ([("0" : Str), "1", "2", "3", "4", "5"] : List Str) := digit_list (by decide +kernel) (by decide +kernel)
def houseRowD (ws : List Str) : PyData := match houseFault ws with
  | some k => .int (k : Int)
  | none => houseT (numOf (ws.getD 1 "")) (numOf (ws.getD 2 "")) (numOf (ws.getD 3 ""))
def tableRowD (ws : List Str) : PyData := match wrongN ws RW with
  | some k => .int (k : Int)
  | none => rowD (rowT ws)
def sp_lrow (K : PySem.W.Frag) (D : List Str → PyData) : Sp := fun vs H Q _ => ∃ (a : Addr) (ws : List Str), vs = [.ref a] ∧ H a = some (.lst (ws.map V.str)) ∧ ws ≠ [] ∧ ws.length ≤ 1000000 ∧ (∀ w ∈ ws, w.length ≤ 1000000) ∧ ∀ (v : V) (J : Hp), Same H J → Dp K J v (D ws) → Q v J
section
variable {P : Program} {w : World} {K : PySem.W.Frag} {mg : Str → Option Value} {base : Heap}
theorem ok_lhouserow (T : Txt K mg) : FnOk P w K mg base CX0 3 T.a_house_row T.d_house_row ["_law_words_here"] (sp_lrow K houseRowD) := by
  have G_digit : FnOk P w K mg base CX0 1 T.a_digit T.d_digit ["_law_words_here", "_law_at", "_law_low", "_law_high"] (sp_digit K) := ok_digit T
  have G_power : FnOk P w K mg base CX0 1 T.a_power T.d_power ["_law_servers", "_law_lag"] sp_power := ok_power T
  refine T.F_house_row.ok sc_house_row (fun vs H Q E h => ?_) (fun cdv A outer s H vs Q E hr h => ?_)
  · obtain ⟨a, ws, rfl, _⟩ := h
    rfl
  · obtain ⟨a, ws, rfl, ha, ne, lw, l1, k⟩ := h
    refine ⟨_, (pss_cons (ps_if (pt_cmpR op_ne (pe_ix ix_list (pv 0) pe_int (fun _ _ => rfl)) pe_str (nomark _))
        (pss_one (ps_ret pe_int))
        pss_nil)
      (pss_cons (ps_set (i := 1) sc_house_row.nd rfl (Or.inl rfl) (pe_lst pa_nil))
      (pss_cons (ps_for PassesOwn.never rfl (pi_tup (pe_tup (pa_cons (pe_tup (pa_cons pe_int (pa_cons pe_int (pa_cons pe_int pa_nil)))) (pa_cons (pe_tup (pa_cons pe_int (pa_cons pe_int (pa_cons pe_int pa_nil)))) (pa_cons (pe_tup (pa_cons pe_int (pa_cons pe_int (pa_cons pe_int pa_nil)))) pa_nil))))) (pg_tup (by rfl) (pgs_cons (pg_name (i := 2) sc_house_row.nd rfl (Or.inl rfl)) (pgs_cons (pg_name (i := 3) sc_house_row.nd rfl (Or.inl rfl)) (pgs_cons (pg_name (i := 4) sc_house_row.nd rfl (Or.inl rfl)) pgs_nil))))
        (pss_cons (ps_set (i := 5) sc_house_row.nd rfl (Or.inl rfl) (pe_call G_digit (hr.mono (by omega)) (by rfl) T.g_digit T.F_digit.kp T.b_digit .nil pass0 (pa_cons (pv 0) (pa_cons (pv 2) (pa_cons (pv 3) (pa_cons (pv 4) pa_nil))))))
      (pss_cons (ps_if (PW.pt (pw_or (pt_cmpR op_isN (pv 5) pe_non (nomark _)) (pw_or1 (PW.pt (pw_and (pt_cmpR op_eq (pv 2) pe_int (nomark _)) (pw_and1 (pt_cmpR op_gt (pe_call G_power (hr.mono (by omega)) (by rfl) T.g_power T.F_power.kp T.b_power .nil pass0 (pa_cons (pe_ix ix_list (pv 1) pe_int (fun _ _ => rfl)) (pa_cons (pv 5) pa_nil))) pe_int (nomark _))))))))
        (pss_one (ps_ret (pv 2)))
        pss_nil)
      (pss_one (ps_expr (pe_bm PySem.F.plainAttrs_list PySem.F.slot_list_append PySem.F.type_list_append mt_append (pv 1) (pa_cons (pv 5) pa_nil)))))))
      (pss_one (ps_ret (pe_ifExp (pt_cmpR op_eq (pe_callB (id := "len") call_len_seq (by rfl) T.m_len (by decide +kernel) (pa_cons (pv 0) pa_nil)) pe_int (nomark _)) (pe_callTy (T := "tuple") call_tuple_of (by rfl) T.m_tuple (by decide +kernel) (pa_cons (pv 1) pa_nil)) pe_int)))))), ?_⟩
    have wat : ∀ n, n < ws.length → ws.getD n "" = ws[n]! := fun n hn => by rw [List.getD_eq_getElem?_getD, List.getElem?_eq_getElem hn, getElem!_pos ws n hn]; rfl
    obtain ⟨w0, wr, ew⟩ : ∃ w0 wr, ws = w0 :: wr := by
      cases ws with
      | nil => exact absurd rfl ne
      | cons x r => exact ⟨x, r, rfl⟩
    have g0 : ws.getD 0 "" = w0 := by rw [ew]; rfl
    have noHW : ∀ p ∈ HW, ("" : Str) ∉ p := by decide +kernel
    refine ⟨_, rfl, a, _, 0, _, rfl, rfl, SqL.of ha, (by rw [ew]; exact atI_nat (j := 0) rfl), rfl, _, rfl, ?_⟩
    by_cases e0 : w0 = "house"
    · rw [decide_eq_true (show V.str w0 = V.str "house" by rw [e0])]
      refine iteF ⟨by show 0 ≤ sizeLine; decide, fun F hF => ?_⟩
      refine ⟨by show 3 ≤ sizeLine; decide, fun t1 g1 => ⟨by show 3 ≤ sizeLine; decide, fun t2 g2 => ⟨by show 3 ≤ sizeLine; decide, fun t3 g3 => ⟨by show 3 ≤ sizeLine; decide, fun tt gt => ?_⟩⟩⟩⟩
      have SA : Same H (upd H F (.lst [])) := same_new hF
      have SB := SA.trans (same_new (o := .tup [.int 1, .int 2, .int 4]) g1)
      have SC := SB.trans (same_new (o := .tup [.int 2, .int 1, .int 6]) g2)
      have SD := SC.trans (same_new (o := .tup [.int 3, .int 0, .int 3]) g3)
      have SE := SD.trans (same_new (o := .tup [.ref t1, .ref t2, .ref t3]) gt)
      have LT : (upd (upd (upd (upd (upd H F (.lst [])) t1 (.tup [.int 1, .int 2, .int 4])) t2 (.tup [.int 2, .int 1, .int 6])) t3 (.tup [.int 3, .int 0, .int 3])) tt (.tup [.ref t1, .ref t2, .ref t3])) tt = some (.tup [.ref t1, .ref t2, .ref t3]) := upd_same
      have L3 : (upd (upd (upd (upd (upd H F (.lst [])) t1 (.tup [.int 1, .int 2, .int 4])) t2 (.tup [.int 2, .int 1, .int 6])) t3 (.tup [.int 3, .int 0, .int 3])) tt (.tup [.ref t1, .ref t2, .ref t3])) t3 = some (.tup [.int 3, .int 0, .int 3]) := same_new gt _ _ upd_same
      have L2' : (upd (upd (upd (upd (upd H F (.lst [])) t1 (.tup [.int 1, .int 2, .int 4])) t2 (.tup [.int 2, .int 1, .int 6])) t3 (.tup [.int 3, .int 0, .int 3])) tt (.tup [.ref t1, .ref t2, .ref t3])) t2 = some (.tup [.int 2, .int 1, .int 6]) := same_new gt _ _ (same_new g3 _ _ upd_same)
      have L1' : (upd (upd (upd (upd (upd H F (.lst [])) t1 (.tup [.int 1, .int 2, .int 4])) t2 (.tup [.int 2, .int 1, .int 6])) t3 (.tup [.int 3, .int 0, .int 3])) tt (.tup [.ref t1, .ref t2, .ref t3])) t1 = some (.tup [.int 1, .int 2, .int 4]) := same_new gt _ _ (same_new g3 _ _ (same_new g2 _ _ upd_same))
      have LF : (upd (upd (upd (upd (upd H F (.lst [])) t1 (.tup [.int 1, .int 2, .int 4])) t2 (.tup [.int 2, .int 1, .int 6])) t3 (.tup [.int 3, .int 0, .int 3])) tt (.tup [.ref t1, .ref t2, .ref t3])) F = some (.lst []) := same_new gt _ _ (same_new g3 _ _ (same_new g2 _ _ (same_new g1 _ _ upd_same)))
      show (∃ a, V.ref tt = V.ref a ∧ _)
      generalize upd (upd (upd (upd (upd H F (.lst [])) t1 (.tup [.int 1, .int 2, .int 4])) t2 (.tup [.int 2, .int 1, .int 6])) t3 (.tup [.int 3, .int 0, .int 3])) tt (.tup [.ref t1, .ref t2, .ref t3]) = J0 at SE LT L3 L2' L1' LF ⊢
      have La := SE _ _ ha
      have nFa : a ≠ F := ne_of_none ha hF
      have nF1 : t1 ≠ F := ne_of L1' LF (by intro z; cases z)
      have nF2 : t2 ≠ F := ne_of L2' LF (by intro z; cases z)
      have nF3 : t3 ≠ F := ne_of L3 LF (by intro z; cases z)
      have nFt : tt ≠ F := ne_of LT LF (by intro z; cases z)
      have L1 := L1'
      have L2 := L2'
      refine ⟨tt, rfl, ⟨_, SqT.of LT⟩, for_tup (K := K) (a := tt) (xs := [.ref t1, .ref t2, .ref t3]) (fun i σ J => (∃ y2 y3 y4 y5, σ = [some (.ref a), some (.ref F), y2, y3, y4, y5]) ∧ (∀ b o, b ≠ F → J0 b = some o → J b = some o) ∧ J F = some (.lst (([numOf (ws.getD 1 ""), numOf (ws.getD 2 ""), numOf (ws.getD 3 "")].take i).map V.int)) ∧ (∀ j, j < i + 1 → ws.getD j "" ∈ HW.getD j []) ∧ (3 ≤ i → numOf (ws.getD 1 "") ^ (numOf (ws.getD 3 "") + 1).toNat ≤ 81)) ⟨⟨none, none, none, none, rfl⟩, fun _ _ _ e => e, LF, fun j hj => ?_, fun q => absurd q (by decide)⟩ (fun i σ J _ ⟨_, keep, _⟩ => SqT.of (keep _ _ nFt LT)) ?_ ?_⟩
      · obtain rfl : j = 0 := by omega
        rw [g0, e0]
        exact List.mem_singleton.mpr rfl
      · rintro i x σ J hx ⟨⟨y2, y3, y4, y5, rfl⟩, keep, hJF, hin, nb⟩
        have SH : Same H J := fun b o e => keep b o (ne_of_none e hF) (SE _ _ e)
        have hx' := hx
        match i, hx, hin, nb, hJF, hx' with
        | 0, hx, hin, nb, hJF, hx' =>
          cases hx
          refine ⟨t1, _, rfl, SqT.of (keep _ _ nF1 L1), rfl, _, _, rfl, _, _, rfl, _, _, rfl, rfl, ?_⟩
          refine ⟨_, rfl, _, rfl, _, rfl, _, rfl, a, ws, 1, 2, 4, rfl, (keep _ _ nFa La), lw, by decide, l1, fun J' S' => ?_⟩
          rw [digit_in dl24]
          by_cases c : ws.getD 1 "" ∈ (["2", "3", "4"] : List Str)
          · rw [if_pos c]
            have hin' : ∀ j, j < 1 + 1 → ws.getD j "" ∈ HW.getD j [] := fun j hj => by
              rcases Nat.lt_or_ge j 1 with q | q
              · exact hin j (by omega)
              · obtain rfl : j = 1 := by omega
                exact c
            refine ⟨_, rfl, rfl, _, rfl, ?_⟩
            rw [decide_eq_false (show ¬ optI (some (numOf (ws.getD 1 ""))) = V.non by intro q; cases q)]
            refine iteF ⟨_, rfl, rfl, _, rfl, ?_⟩
            have JF' := S' _ _ hJF
            have keep' : ∀ b o, b ≠ F → J0 b = some o → J' b = some o := fun b o nb' e => S' _ _ (keep b o nb' e)
            rw [decide_eq_false (show ¬ V.int (1 : Int) = V.int 3 by intro q; have := V.int.inj q; omega)]
            refine iteF (iteF ?_)
            refine ⟨_, rfl, .inl ⟨rfl, _, SqL.of JF'⟩, _, rfl, F, _, _, rfl, rfl, JF', small5k (by simp), ⟨_, _, _, _, rfl⟩, fun b o nb' e => ?_, upd_same, hin', fun q => absurd q (by decide)⟩
            rw [upd_ne nb']
            exact keep' b o nb' e
          · rw [if_neg c]
            refine ⟨_, rfl, rfl, _, rfl, ?_⟩
            rw [decide_eq_true (show optI none = V.non from rfl)]
            refine iteT (iteT ⟨_, rfl, k (.int 1) J' (SH.trans S') ?_⟩)
            have hf : houseFault ws = some 1 := by
              unfold houseFault
              rw [wrong_first noHW (show 1 < HW.length by decide) hin c]
              rfl
            unfold houseRowD
            rw [hf]
            exact .int 1
        | 1, hx, hin, nb, hJF, hx' =>
          cases hx
          refine ⟨t2, _, rfl, SqT.of (keep _ _ nF2 L2), rfl, _, _, rfl, _, _, rfl, _, _, rfl, rfl, ?_⟩
          refine ⟨_, rfl, _, rfl, _, rfl, _, rfl, a, ws, 2, 1, 6, rfl, (keep _ _ nFa La), lw, by decide, l1, fun J' S' => ?_⟩
          rw [digit_in dl16]
          by_cases c : ws.getD 2 "" ∈ (["1", "2", "3", "4", "5", "6"] : List Str)
          · rw [if_pos c]
            have hin' : ∀ j, j < 2 + 1 → ws.getD j "" ∈ HW.getD j [] := fun j hj => by
              rcases Nat.lt_or_ge j 2 with q | q
              · exact hin j (by omega)
              · obtain rfl : j = 2 := by omega
                exact c
            refine ⟨_, rfl, rfl, _, rfl, ?_⟩
            rw [decide_eq_false (show ¬ optI (some (numOf (ws.getD 2 ""))) = V.non by intro q; cases q)]
            refine iteF ⟨_, rfl, rfl, _, rfl, ?_⟩
            have JF' := S' _ _ hJF
            have keep' : ∀ b o, b ≠ F → J0 b = some o → J' b = some o := fun b o nb' e => S' _ _ (keep b o nb' e)
            rw [decide_eq_false (show ¬ V.int (2 : Int) = V.int 3 by intro q; have := V.int.inj q; omega)]
            refine iteF (iteF ?_)
            refine ⟨_, rfl, .inl ⟨rfl, _, SqL.of JF'⟩, _, rfl, F, _, _, rfl, rfl, JF', small5k (by simp), ⟨_, _, _, _, rfl⟩, fun b o nb' e => ?_, upd_same, hin', fun q => absurd q (by decide)⟩
            rw [upd_ne nb']
            exact keep' b o nb' e
          · rw [if_neg c]
            refine ⟨_, rfl, rfl, _, rfl, ?_⟩
            rw [decide_eq_true (show optI none = V.non from rfl)]
            refine iteT (iteT ⟨_, rfl, k (.int 2) J' (SH.trans S') ?_⟩)
            have hf : houseFault ws = some 2 := by
              unfold houseFault
              rw [wrong_first noHW (show 2 < HW.length by decide) hin c]
              rfl
            unfold houseRowD
            rw [hf]
            exact .int 2
        | 2, hx, hin, nb, hJF, hx' =>
          cases hx
          refine ⟨t3, _, rfl, SqT.of (keep _ _ nF3 L3), rfl, _, _, rfl, _, _, rfl, _, _, rfl, rfl, ?_⟩
          refine ⟨_, rfl, _, rfl, _, rfl, _, rfl, a, ws, 3, 0, 3, rfl, (keep _ _ nFa La), lw, by decide, l1, fun J' S' => ?_⟩
          rw [digit_in dl03]
          by_cases c : ws.getD 3 "" ∈ (["0", "1", "2", "3"] : List Str)
          · rw [if_pos c]
            have hin' : ∀ j, j < 3 + 1 → ws.getD j "" ∈ HW.getD j [] := fun j hj => by
              rcases Nat.lt_or_ge j 3 with q | q
              · exact hin j (by omega)
              · obtain rfl : j = 3 := by omega
                exact c
            refine ⟨_, rfl, rfl, _, rfl, ?_⟩
            rw [decide_eq_false (show ¬ optI (some (numOf (ws.getD 3 ""))) = V.non by intro q; cases q)]
            refine iteF ⟨_, rfl, rfl, _, rfl, ?_⟩
            have JF' := S' _ _ hJF
            have keep' : ∀ b o, b ≠ F → J0 b = some o → J' b = some o := fun b o nb' e => S' _ _ (keep b o nb' e)
            rw [decide_eq_true (show V.int (3 : Int) = V.int 3 from rfl)]
            have z1 := (dl24 _).mpr (hin 1 (by decide))
            have g1 := (dl03 _).mpr c
            refine iteT ⟨_, rfl, F, _, 0, _, rfl, rfl, SqL.of JF', rfl, _, rfl, numOf (ws.getD 1 ""), numOf (ws.getD 3 ""), rfl, by omega, by omega, by omega, by omega, _, _, rfl, rfl, _, rfl, ?_⟩
            by_cases pw : numOf (ws.getD 1 "") ^ (numOf (ws.getD 3 "") + 1).toNat ≤ 81
            · rw [decide_eq_false (show ¬ (81 : Int) < _ by omega)]
              refine iteF ?_
              refine ⟨_, rfl, .inl ⟨rfl, _, SqL.of JF'⟩, _, rfl, F, _, _, rfl, rfl, JF', small5k (by simp), ⟨_, _, _, _, rfl⟩, fun b o nb' e => ?_, upd_same, hin', fun _ => pw⟩
              rw [upd_ne nb']
              exact keep' b o nb' e
            · rw [decide_eq_true (show (81 : Int) < _ by omega)]
              refine iteT ⟨_, rfl, k (.int 3) J' (SH.trans S') ?_⟩
              have hb : badHouse ws = true := by
                unfold badHouse
                rw [decide_eq_false pw]
                rfl
              have hf : houseFault ws = some 3 := by
                unfold houseFault
                rw [wrong_end noHW hin']
                by_cases l4 : ws.length = HW.length
                · simp [l4, hb]
                · rw [if_neg l4]
                  simp [hb, HW]
              unfold houseRowD
              rw [hf]
              exact .int 3
          · rw [if_neg c]
            refine ⟨_, rfl, rfl, _, rfl, ?_⟩
            rw [decide_eq_true (show optI none = V.non from rfl)]
            refine iteT (iteT ⟨_, rfl, k (.int 3) J' (SH.trans S') ?_⟩)
            have hf : houseFault ws = some 3 := by
              unfold houseFault
              rw [wrong_first noHW (show 3 < HW.length by decide) hin c]
              rfl
            unfold houseRowD
            rw [hf]
            exact .int 3
      · rintro σ J ⟨⟨y2, y3, y4, y5, rfl⟩, keep, hJF, hin, nb⟩
        have SH : Same H J := fun b o e => keep b o (ne_of_none e hF) (SE _ _ e)
        have hb : badHouse ws = false := by
          unfold badHouse
          rw [decide_eq_true (nb (Nat.le_refl _))]
          rfl
        have lm : (ws.map V.str).length = ws.length := List.length_map _
        refine ⟨_, rfl, a, _, rfl, .inl (SqL.of (keep _ _ nFa La)), rfl, _, rfl, ?_⟩
        rw [lm]
        by_cases l4 : ws.length = 4
        · rw [decide_eq_true (show V.int (ws.length : Int) = V.int 4 by rw [l4]; rfl)]
          refine iteT ⟨_, rfl, F, _, rfl, .inl ⟨SqL.of hJF, fun l hl => k (.ref l) _ (SH.trans (same_new hl)) ?_⟩⟩
          have hf : houseFault ws = none := by
            unfold houseFault
            rw [wrong_end noHW hin, if_pos (show ws.length = HW.length from l4)]
            simp [hb]
          unfold houseRowD
          rw [hf]
          exact .tup (SqT.of upd_same) (.cons (.int _) (.cons (.int _) (.cons (.int _) .nil)))
        · rw [decide_eq_false (show ¬ V.int (ws.length : Int) = V.int 4 from fun e => l4 (by have := V.int.inj e; omega))]
          refine iteF (k (.int 4) J SH ?_)
          have hf : houseFault ws = some 4 := by
            unfold houseFault
            rw [wrong_end noHW hin, if_neg (show ¬ ws.length = HW.length from l4)]
            simp [hb, HW]
          unfold houseRowD
          rw [hf]
          exact .int 4
    · rw [decide_eq_false (show ¬ V.str w0 = V.str "house" from fun e => e0 (V.str.inj e))]
      refine iteT (k (.int 0) H (Same.refl H) ?_)
      have hf : houseFault ws = some 0 := by
        unfold houseFault
        rw [wrong_first (i := 0) noHW (by decide) (fun j hj => absurd hj (Nat.not_lt_zero _)) (by rw [g0]; exact fun z => e0 (List.mem_singleton.mp z))]
        rfl
      unfold houseRowD
      rw [hf]
      exact .int 0
theorem ok_ltablerow (T : Txt K mg) : FnOk P w K mg base CX0 3 T.a_table_row T.d_table_row ["_law_words_here"] (sp_lrow K tableRowD) := by
  have G_digit : FnOk P w K mg base CX0 1 T.a_digit T.d_digit ["_law_words_here", "_law_at", "_law_low", "_law_high"] (sp_digit K) := ok_digit T
  refine T.F_table_row.ok sc_table_row (fun vs H Q E h => ?_) (fun cdv A outer s H vs Q E hr h => ?_)
  · obtain ⟨a, ws, rfl, _⟩ := h
    rfl
  · obtain ⟨a, ws, rfl, ha, ne, lw, l1, k⟩ := h
    refine ⟨_, (pss_cons (ps_if (pt_cmpR op_notIn_seq (pe_ix ix_list (pv 0) pe_int (fun _ _ => rfl)) (pe_lst (pa_cons pe_str (pa_cons pe_str (pa_cons pe_str pa_nil)))) (by rfl))
        (pss_one (ps_ret pe_int))
        pss_nil)
      (pss_cons (ps_for PassesOwn.never rfl (pi_tup (pe_tup (pa_cons pe_int (pa_cons pe_int pa_nil)))) (pg_name (i := 1) sc_table_row.nd rfl (Or.inl rfl))
        (pss_one (ps_if (pt_cmpR op_isN (pe_call G_digit (hr.mono (by omega)) (by rfl) T.g_digit T.F_digit.kp T.b_digit .nil pass0 (pa_cons (pv 0) (pa_cons (pv 1) (pa_cons pe_int (pa_cons pe_int pa_nil))))) pe_non (nomark _))
        (pss_one (ps_ret (pv 1)))
        pss_nil)))
      (pss_one (ps_ret (pe_ifExp (pt_cmpR op_eq (pe_callB (id := "len") call_len_seq (by rfl) T.m_len (by decide +kernel) (pa_cons (pv 0) pa_nil)) pe_int (nomark _)) (pe_tup (pa_cons (pe_ix ix_list (pv 0) pe_int (fun _ _ => rfl)) (pa_cons (pe_callTy (T := "int") call_int_str (by rfl) T.m_int (by decide +kernel) (pa_cons (pe_ix ix_list (pv 0) pe_int (fun _ _ => rfl)) pa_nil)) (pa_cons (pe_callTy (T := "int") call_int_str (by rfl) T.m_int (by decide +kernel) (pa_cons (pe_ix ix_list (pv 0) pe_int (fun _ _ => rfl)) pa_nil)) pa_nil)))) pe_int))))), ?_⟩
    obtain ⟨w0, wr, ew⟩ : ∃ w0 wr, ws = w0 :: wr := by
      cases ws with
      | nil => exact absurd rfl ne
      | cons x r => exact ⟨x, r, rfl⟩
    have g0 : ws.getD 0 "" = w0 := by rw [ew]; rfl
    have noRW : ∀ p ∈ RW, ("" : Str) ∉ p := by decide +kernel
    refine ⟨_, rfl, a, _, 0, _, rfl, rfl, SqL.of ha, (by rw [ew]; exact atI_nat (j := 0) rfl), by show 3 ≤ sizeLine; decide, fun l hl => ?_⟩
    have S1 : Same H (upd H l (.lst [.str "named", .str "next", .str "wait"])) := same_new hl
    refine ⟨l, _, rfl, .inl (SqL.of upd_same), rfl, rfl, _, rfl, ?_⟩
    have ein : inV (.str w0) [.str "named", .str "next", .str "wait"] = decide (w0 ∈ (["named", "next", "wait"] : List Str)) := in_words w0 ["named", "next", "wait"]
    rw [if_pos rfl, ein]
    generalize upd H l (.lst [V.str "named", V.str "next", V.str "wait"]) = J1 at S1 ⊢
    by_cases e0 : w0 ∈ (["named", "next", "wait"] : List Str)
    · rw [decide_eq_true e0]
      refine iteF ⟨by show 2 ≤ sizeLine; decide, fun tt gt => ?_⟩
      have S0 : Same H (upd J1 tt (.tup [.int 1, .int 2])) := S1.trans (same_new gt)
      have LT : (upd J1 tt (.tup [.int 1, .int 2])) tt = some (.tup [.int 1, .int 2]) := upd_same
      show (∃ a, V.ref tt = V.ref a ∧ _)
      generalize upd J1 tt (.tup [V.int 1, V.int 2]) = J0 at S0 LT ⊢
      have Ha0 := S0 _ _ ha
      refine ⟨tt, rfl, ⟨_, SqT.of LT⟩, for_tup (K := K) (a := tt) (xs := [.int 1, .int 2]) (fun i σ J => (∃ y1, σ = [some (.ref a), y1]) ∧ Same J0 J ∧ ∀ j, j < i + 1 → ws.getD j "" ∈ RW.getD j []) ⟨⟨none, rfl⟩, Same.refl J0, fun j hj => ?_⟩ (fun i σ J _ ⟨_, S, _⟩ => SqT.of (S _ _ LT)) ?_ ?_⟩
      · obtain rfl : j = 0 := by omega
        rw [g0]
        exact e0
      · rintro i x σ J hx ⟨⟨y1, rfl⟩, S, hin⟩
        match i, hx, hin with
        | 0, hx, hin =>
          cases hx
          refine ⟨_, rfl, _, rfl, a, ws, 1, 0, 5, rfl, S _ _ Ha0, lw, by decide, l1, fun J' S' => ?_⟩
          rw [digit_in dl05]
          by_cases c : ws.getD 1 "" ∈ (["0", "1", "2", "3", "4", "5"] : List Str)
          · rw [if_pos c]
            refine ⟨rfl, _, rfl, ?_⟩
            rw [decide_eq_false (show ¬ optI (some (numOf (ws.getD 1 ""))) = V.non by intro q; cases q)]
            refine iteF ⟨⟨_, rfl⟩, S.trans S', fun j hj => ?_⟩
            rcases Nat.lt_or_ge j 1 with q | q
            · exact hin j (by omega)
            · obtain rfl : j = 1 := by omega
              exact c
          · rw [if_neg c]
            refine ⟨rfl, _, rfl, ?_⟩
            rw [decide_eq_true (show optI none = V.non from rfl)]
            refine iteT ⟨_, rfl, k (.int 1) J' ((S0.trans S).trans S') ?_⟩
            unfold tableRowD
            rw [wrong_first noRW (show 1 < RW.length by decide) hin c]
            exact .int 1
        | 1, hx, hin =>
          cases hx
          refine ⟨_, rfl, _, rfl, a, ws, 2, 0, 5, rfl, S _ _ Ha0, lw, by decide, l1, fun J' S' => ?_⟩
          rw [digit_in dl05]
          by_cases c : ws.getD 2 "" ∈ (["0", "1", "2", "3", "4", "5"] : List Str)
          · rw [if_pos c]
            refine ⟨rfl, _, rfl, ?_⟩
            rw [decide_eq_false (show ¬ optI (some (numOf (ws.getD 2 ""))) = V.non by intro q; cases q)]
            refine iteF ⟨⟨_, rfl⟩, S.trans S', fun j hj => ?_⟩
            rcases Nat.lt_or_ge j 2 with q | q
            · exact hin j (by omega)
            · obtain rfl : j = 2 := by omega
              exact c
          · rw [if_neg c]
            refine ⟨rfl, _, rfl, ?_⟩
            rw [decide_eq_true (show optI none = V.non from rfl)]
            refine iteT ⟨_, rfl, k (.int 2) J' ((S0.trans S).trans S') ?_⟩
            unfold tableRowD
            rw [wrong_first noRW (show 2 < RW.length by decide) hin c]
            exact .int 2
      · rintro σ J ⟨⟨y1, rfl⟩, S, hin⟩
        have SH := S0.trans S
        have lm : (ws.map V.str).length = ws.length := List.length_map _
        refine ⟨_, rfl, a, _, rfl, .inl (SqL.of (S _ _ Ha0)), rfl, _, rfl, ?_⟩
        rw [lm]
        have we := wrong_end noRW hin
        by_cases l3 : ws.length = 3
        · rw [decide_eq_true (show V.int (ws.length : Int) = V.int 3 by rw [l3]; rfl)]
          rw [if_pos (show ws.length = RW.length from l3)] at we
          obtain ⟨w1, w2, ew3⟩ : ∃ w1 w2, wr = [w1, w2] := by
            rw [ew, List.length_cons] at l3
            match wr, l3 with
            | [x, y], _ => exact ⟨x, y, rfl⟩
          subst ew3
          have c1 := ((dl05 _).mpr (hin 1 (by decide))).1
          have c2 := ((dl05 _).mpr (hin 2 (by decide))).1
          rw [ew] at c1 c2
          have d1 : w1 ∈ digits10 := c1
          have d2 : w2 ∈ digits10 := c2
          obtain ⟨_, i1, n1⟩ := digits_all _ d1
          obtain ⟨_, i2, n2⟩ := digits_all _ d2
          have sq : SqL K J a ([w0, w1, w2].map V.str) := by
            have := SqL.of (K := K) (S _ _ Ha0)
            rw [ew] at this
            exact this
          refine iteT ⟨_, rfl, a, _, 0, _, rfl, rfl, sq, atI_nat (j := 0) rfl, ?_⟩
          refine ⟨_, rfl, a, _, 1, _, rfl, rfl, sq, atI_nat (j := 1) rfl, _, _, rfl, i1, by rw [n1]; decide, ?_⟩
          refine ⟨_, rfl, a, _, 2, _, rfl, rfl, sq, atI_nat (j := 2) rfl, _, _, rfl, i2, by rw [n2]; decide, ?_⟩
          refine ⟨by show 3 ≤ sizeLine; decide, fun q hq => k (.ref q) _ (SH.trans (same_new hq)) ?_⟩
          unfold tableRowD
          rw [we, ew]
          exact .tup (SqT.of upd_same) (.cons (.str _) (.cons (.int _) (.cons (.int _) .nil)))
        · rw [decide_eq_false (show ¬ V.int (ws.length : Int) = V.int 3 from fun e => l3 (by have := V.int.inj e; omega))]
          rw [if_neg (show ¬ ws.length = RW.length from l3)] at we
          refine iteF (k (.int 3) J SH ?_)
          unfold tableRowD
          rw [we]
          exact .int 3
    · rw [decide_eq_false e0]
      refine iteT (k (.int 0) J1 S1 ?_)
      unfold tableRowD
      rw [wrong_first (i := 0) noRW (by decide) (fun j hj => absurd hj (Nat.not_lt_zero _)) (by rw [g0]; exact e0)]
      exact .int 0
end

/-! ### the law's own look at all lines -/
def foundD (ls : List (List Str)) : PyData := .tuple [houseT (numOf ((ls.headD []).getD 1 "")) (numOf ((ls.headD []).getD 2 "")) (numOf ((ls.headD []).getD 3 "")), tableD ((ls.drop 1).map rowT)]
def rowsReadD (ls : List (List Str)) : PyData := match faultW 0 ls with
  | some e => .list [.int (e.1 : Int), .int (e.2 : Int)]
  | none => foundD ls
def wordsOf (ts : List Str) : List (List Str) := ts.map fun p => Txt.split p " "
def sp_lrows (K : PySem.W.Frag) : Sp := fun vs H Q _ => ∃ (a : Addr) (ts : List Str), vs = [.ref a] ∧ H a = some (.lst (ts.map V.str)) ∧ ts ≠ [] ∧ ts.length ≤ 900002 ∧ (∀ p ∈ ts, p.length ≤ 900000) ∧ ∀ (v : V) (J : Hp), Same H J → Dp K J v (rowsReadD (wordsOf ts)) → Q v J
def sp_lreadt (K : PySem.W.Frag) : Sp := fun vs H Q _ => ∃ t : Str, vs = [.str t] ∧ t.length ≤ 900000 ∧ ∀ (v : V) (J : Hp), Same H J → Dp K J v (toldD t) → Q v J
theorem sqT_put {K : PySem.W.Frag} {J : Hp} {b F : Addr} {xs ys : List V} {o : HO} (h : SqT K J b xs) (hF : J F = some (.lst ys)) : SqT K (upd J F o) b xs := by
  rcases h with (h | ⟨u, h⟩) | h
  · exact Or.inl (Or.inl (by rw [upd_ne (ne_of h hF (by intro z; cases z))]; exact h))
  · exact Or.inl (Or.inr ⟨u, by rw [upd_ne (ne_of h hF (by intro z; cases z))]; exact h⟩)
  · exact Or.inr h
theorem words_of {p : Str} (hp : p.length ≤ 900000) : Txt.split p " " ≠ [] ∧ (Txt.split p " ").length ≤ 1000000 ∧ ∀ w ∈ Txt.split p " ", w.length ≤ 1000000 := by
  obtain ⟨a, b⟩ := split_all (x := p) (y := " ") (by decide) (by decide +kernel)
  have c := PyProof.Rows.split_le p " "
  exact ⟨a, by omega, fun w hw => Nat.le_trans (b w hw) (by omega)⟩
theorem str_decL {x y : Str} : decide (V.str x = V.str y) = decide (x = y) := by
  by_cases h : x = y
  · rw [h, decide_eq_true rfl, decide_eq_true rfl]
  · rw [decide_eq_false h, decide_eq_false fun z => h (V.str.inj z)]
theorem rows_shaped {rs : List Row} (h : ∀ r ∈ rs, deedOk r.1) : SeqAt.shaped (tableD rs) = true := by
  have lay : ∀ {rs : List Row}, (∀ r ∈ rs, deedOk r.1) → PyData.canLayAll0 (rs.map rowD) = true ∧ PyData.depthAll (rs.map rowD) ≤ 1 := by
    intro rs
    induction rs with
    | nil => intro _; exact ⟨by simp [PyData.canLayAll0], by simp [PyData.depthAll]⟩
    | cons r rs ih =>
      intro h
      obtain ⟨a, b⟩ := ih fun x hx => h x (List.mem_cons_of_mem _ hx)
      have e : PyData.strOk r.1 = true := by
        rcases h r List.mem_cons_self with h | h | h <;> (rw [h]; decide +kernel)
      refine ⟨by simp [rowD, PyData.canLayAll0, PyData.canLay0, e, a], ?_⟩
      simp only [List.map_cons, rowD, PyData.depthAll, PyData.depth] at b ⊢
      omega
  obtain ⟨a, b⟩ := lay h
  unfold SeqAt.shaped tableD
  rw [PyData.canLay0, a, PyData.depth, decide_eq_true (by omega)]
  rfl
/-- the lines that the law looks at -/
def rowsOfT (t : Str) : List Str := if 1 < (Txt.split t "\n").length ∧ (Txt.split t "\n").getLastD "" = "" then (Txt.split t "\n").dropLast else Txt.split t "\n"
def endedT (t : Str) : Bool := decide (1 < (Txt.split t "\n").length ∧ (Txt.split t "\n").getLastD "" = "")
theorem rows_told (t : Str) : rowsOfT t ≠ [] ∧ ((linesT t = wordsOf (rowsOfT t) ∧ endsT t = endedT t) ∨ (rowsOfT t = [("" : Str)] ∧ readF t = some (0, 0))) := by
  obtain ⟨ne, _⟩ := split_all (x := t) (y := "\n") (by decide) (by decide +kernel)
  unfold rowsOfT linesT endsT endedT readF linesT endsT
  generalize Txt.split t "\n" = ps at ne ⊢
  by_cases l : 1 < ps.length
  · by_cases e : ps.getLastD "" = ""
    · rw [if_pos ⟨l, e⟩, if_pos e]
      refine ⟨fun z => ?_, .inl ⟨rfl, by rw [decide_eq_true e, decide_eq_true ⟨l, e⟩]⟩⟩
      have := congrArg List.length z
      rw [List.length_dropLast, List.length_nil] at this
      omega
    · rw [if_neg (fun z => e z.2), if_neg e]
      exact ⟨ne, .inl ⟨rfl, by rw [decide_eq_false e, decide_eq_false (fun z => e z.2)]⟩⟩
  · have l1 : ps.length = 1 := by
      have : ps.length ≠ 0 := fun z => ne (List.eq_nil_of_length_eq_zero z)
      omega
    obtain ⟨x, rfl⟩ := List.length_eq_one_iff.mp l1
    by_cases e : x = ""
    · subst e
      rw [if_neg (fun z => l z.1)]
      exact ⟨ne, .inr ⟨rfl, rfl⟩⟩
    · have e' : ¬ ([x] : List Str).getLastD "" = "" := e
      rw [if_neg (fun z => l z.1), if_neg e']
      exact ⟨ne, .inl ⟨rfl, by rw [decide_eq_false e', decide_eq_false (fun z => l z.1)]⟩⟩
section
variable {P : Program} {w : World} {K : PySem.W.Frag} {mg : Str → Option Value} {base : Heap}
theorem ok_lrows (T : Txt K mg) : FnOk P w K mg base CX0 4 T.a_rows_read T.d_rows_read ["_law_rows"] (sp_lrows K) := by
  have G_house_row : FnOk P w K mg base CX0 3 T.a_house_row T.d_house_row ["_law_words_here"] (sp_lrow K houseRowD) := ok_lhouserow T
  have G_table_row : FnOk P w K mg base CX0 3 T.a_table_row T.d_table_row ["_law_words_here"] (sp_lrow K tableRowD) := ok_ltablerow T
  refine T.F_rows_read.ok sc_rows_read (fun vs H Q E h => ?_) (fun cdv A outer s H vs Q E hr h => ?_)
  · obtain ⟨a, ts, rfl, _⟩ := h
    rfl
  · obtain ⟨a, ts, rfl, ha, ne, lt, lp, k⟩ := h
    refine ⟨_, (pss_cons (ps_par (i := 1) (j := 2) (by rfl) sc_rows_read.nd rfl rfl (by decide) rfl rfl (pa_cons (pe_call G_house_row (hr.mono (by omega)) (by rfl) T.g_house_row T.F_house_row.kp T.b_house_row .nil pass0 (pa_cons (pe_split (pe_ix ix_list (pv 0) pe_int (fun _ _ => rfl)) pe_str) pa_nil)) (pa_cons (pe_lst pa_nil) pa_nil)) (by rfl))
      (pss_cons (ps_if (pt_val (pe_callB (id := "isinstance") (call_isD "int" (by decide)) (by rfl) T.m_isinstance (by decide +kernel) (pa_cons (pv 1) (pa_cons (pe_bltn (v := .ty "int") (by rfl) T.m_int (by decide +kernel) rfl) pa_nil))))
        (pss_one (ps_ret (pe_lst (pa_cons pe_int (pa_cons (pv 1) pa_nil)))))
        pss_nil)
      (pss_cons (ps_for PassesOwn.never rfl (pi_range2 (by rfl) T.m_range (pa_cons pe_int (pa_cons (pe_callB (id := "len") call_len_seq (by rfl) T.m_len (by decide +kernel) (pa_cons (pv 0) pa_nil)) pa_nil))) (pg_name (i := 3) sc_rows_read.nd rfl (Or.inl rfl))
        (pss_cons (ps_set (i := 4) sc_rows_read.nd rfl (Or.inl rfl) (pe_ifExp (pt_cmpR op_gt (pv 3) pe_int (nomark _)) pe_int (pe_call G_table_row (hr.mono (by omega)) (by rfl) T.g_table_row T.F_table_row.kp T.b_table_row .nil pass0 (pa_cons (pe_split (pe_ix ix_list (pv 0) (pv 3) (fun _ _ => rfl)) pe_str) pa_nil))))
      (pss_cons (ps_if (pt_val (pe_callB (id := "isinstance") (call_isD "int" (by decide)) (by rfl) T.m_isinstance (by decide +kernel) (pa_cons (pv 4) (pa_cons (pe_bltn (v := .ty "int") (by rfl) T.m_int (by decide +kernel) rfl) pa_nil))))
        (pss_one (ps_ret (pe_lst (pa_cons (pv 3) (pa_cons (pv 4) pa_nil)))))
        pss_nil)
      (pss_one (ps_expr (pe_bm PySem.F.plainAttrs_list PySem.F.slot_list_append PySem.F.type_list_append mt_append (pv 2) (pa_cons (pv 4) pa_nil)))))))
      (pss_one (ps_ret (pe_tup (pa_cons (pv 1) (pa_cons (pe_callTy (T := "tuple") call_tuple_of (by rfl) T.m_tuple (by decide +kernel) (pa_cons (pv 2) pa_nil)) pa_nil)))))))), ?_⟩
    obtain ⟨t0, tr, et⟩ : ∃ t0 tr, ts = t0 :: tr := by
      cases ts with
      | nil => exact absurd rfl ne
      | cons x r => exact ⟨x, r, rfl⟩
    have els : wordsOf ts = Txt.split t0 " " :: wordsOf tr := by rw [et]; rfl
    have lls : (wordsOf ts).length = ts.length := List.length_map _
    have lm : (ts.map V.str).length = ts.length := List.length_map _
    have p0 := lp t0 (by rw [et]; exact List.mem_cons_self)
    obtain ⟨n0, c0, w0⟩ := words_of p0
    generalize hw0 : Txt.split t0 " " = ws0 at els n0 c0 w0
    refine ⟨_, rfl, a, _, 0, _, rfl, rfl, SqL.of ha, (by rw [et]; exact atI_nat (j := 0) rfl), ⟨_, rfl⟩, _, _, rfl, rfl, rfl, Nat.le_trans (Nat.add_le_add_right p0 2) (by decide), fun q1 h1 => ?_⟩
    rw [hw0]
    have S1 : Same H (upd H q1 (.lst (ws0.map V.str))) := same_new h1
    refine ⟨q1, ws0, rfl, upd_same, n0, c0, w0, fun v J1 T1 dv => ?_⟩
    have S2 := S1.trans T1
    refine ⟨by show 0 ≤ sizeLine; decide, fun F hF => ⟨_, _, rfl, ?_⟩⟩
    have nF : Same J1 (upd J1 F (.lst [])) := same_new hF
    have LF : (upd J1 F (.lst [])) F = some (.lst []) := upd_same
    show (tSeq _ _ : TS) _ _ (upd J1 F (.lst []))
    generalize upd J1 F (.lst []) = J2 at nF LF ⊢
    refine ⟨_, rfl, v, houseRowD ws0, rfl, dpSame nF _ _ dv, _, rfl, ?_⟩
    cases hf : houseFault ws0 with
    | some m =>
      have e1 : houseRowD ws0 = .int (m : Int) := by unfold houseRowD; rw [hf]
      rw [e1] at dv ⊢
      refine iteT ⟨_, rfl, by show 2 ≤ sizeLine; decide, fun l hl => k (.ref l) _ ((S2.trans nF).trans (same_new hl)) ?_⟩
      have fw : faultW 0 (wordsOf ts) = some (0, m) := by
        rw [els, faultW, show lineFault 0 ws0 = some m from by unfold lineFault; rw [if_pos rfl]; exact hf]
      unfold rowsReadD
      rw [fw]
      cases dv
      exact .lst (SqL.of upd_same) (.cons (.int 0) (.cons (.int _) .nil))
    | none =>
      have e1 : houseRowD ws0 = houseT (numOf (ws0.getD 1 "")) (numOf (ws0.getD 2 "")) (numOf (ws0.getD 3 "")) := by unfold houseRowD; rw [hf]
      rw [e1] at dv ⊢
      refine iteF ?_
      have f1 : faultW 0 (wordsOf ts) = faultW 1 ((wordsOf ts).drop 1) := by
        rw [els, faultW, show lineFault 0 ws0 = none from by unfold lineFault; rw [if_pos rfl]; exact hf]
        rfl
      refine ⟨_, rfl, a, _, rfl, .inl (SqL.of (nF _ _ (S2 _ _ ha))), 1, _, rfl, ⟨by omega, by omega, by rw [lm]; omega, by rw [lm]; omega⟩, ?_⟩
      rw [lm]
      refine for_range (lo := 1) (n := ((ts.length : Int) - 1).toNat) (fun i σ J => (∃ y3 y4, σ = [some (.ref a), some v, some (.ref F), y3, y4]) ∧ Same J1 J ∧ faultW 0 (wordsOf ts) = faultW (1 + i) ((wordsOf ts).drop (1 + i)) ∧ ∃ us : List V, J F = some (.lst us) ∧ us.length = i ∧
        Paired (fun (v : V) (r : Row) => ∃ b, v = .ref b ∧ SqT K J b [.str r.1, .int r.2.1, .int r.2.2]) us ((((wordsOf ts).drop 1).take i).map rowT)) ⟨⟨none, none, rfl⟩, nF, f1, [], LF, rfl, .nil⟩ ?_ ?_
      · rintro i σ J hi ⟨⟨y3, y4, rfl⟩, S, hfw, us, hJF, lu, pu⟩
        have hi' : 1 + i < ts.length := by omega
        have hts : ts[1 + i]? = some ts[1 + i] := List.getElem?_eq_getElem hi'
        have pi := lp _ (List.getElem_mem hi')
        obtain ⟨ni, ci, wi⟩ := words_of pi
        have hls : (wordsOf ts)[1 + i]? = some (Txt.split ts[1 + i] " ") := by
          unfold wordsOf
          rw [List.getElem?_map, hts]
          rfl
        generalize hws : Txt.split ts[1 + i] " " = ws at hls ni ci wi
        obtain ⟨fa1, fa2⟩ := faultW_at hfw hls
        have hat : atI (ts.map V.str) (1 + (i : Int)) = some (.str ts[1 + i]) := by
          rw [show (1 + (i : Int)) = ((1 + i : Nat) : Int) by omega]
          exact atI_nat (by rw [List.getElem?_map, hts]; rfl)
        have SH := S2.trans S
        have bad : ∀ (m : Nat) (J' : Hp), Same J J' → lineFault (1 + i) ws = some m → ∀ l, J' l = none → Q (.ref l) (upd J' l (.lst [.int (1 + (i : Int)), .int (m : Int)])) := fun m J' S' hm l hl => by
          refine k (.ref l) _ ((SH.trans S').trans (same_new hl)) ?_
          unfold rowsReadD
          rw [fa1 m hm]
          refine .lst (SqL.of upd_same) ?_
          rw [show (1 + (i : Int)) = ((1 + i : Nat) : Int) by omega]
          exact .cons (.int _) (.cons (.int _) .nil)
        refine ⟨_, rfl, _, _, rfl, rfl, _, rfl, ?_⟩
        by_cases c6 : (6 : Int) < 1 + (i : Int)
        · rw [decide_eq_true c6]
          have lf : lineFault (1 + i) ws = some 0 := by
            unfold lineFault
            rw [if_neg (by omega), if_pos (by omega)]
          refine iteT ⟨_, rfl, .int 0, .int 0, rfl, .int 0, _, rfl, iteT ⟨_, rfl, _, rfl, by show 2 ≤ sizeLine; decide, fun l hl => bad 0 J (Same.refl J) lf l hl⟩⟩
        · rw [decide_eq_false c6]
          have lf : lineFault (1 + i) ws = wrongN ws RW := by
            unfold lineFault
            rw [if_neg (by omega), if_neg (by omega)]
          refine iteF ⟨_, rfl, _, rfl, a, _, _, _, rfl, rfl, SqL.of (SH _ _ ha), hat, ⟨_, rfl⟩, _, _, rfl, rfl, rfl, Nat.le_trans (Nat.add_le_add_right pi 2) (by decide), fun q5 h5 => ?_⟩
          rw [hws]
          have S5 : Same J (upd J q5 (.lst (ws.map V.str))) := same_new h5
          refine ⟨q5, ws, rfl, upd_same, ni, ci, wi, fun v' J6 T6 dv' => ?_⟩
          have S6 := S5.trans T6
          refine ⟨_, rfl, v', tableRowD ws, rfl, dv', _, rfl, ?_⟩
          cases hr : wrongN ws RW with
          | some m =>
            have e2 : tableRowD ws = .int (m : Int) := by unfold tableRowD; rw [hr]
            rw [e2] at dv' ⊢
            cases dv'
            exact iteT ⟨_, rfl, _, rfl, by show 2 ≤ sizeLine; decide, fun l hl => bad m J6 S6 (by rw [lf, hr]) l hl⟩
          | none =>
            have e2 : tableRowD ws = rowD (rowT ws) := by unfold tableRowD; rw [hr]
            rw [e2] at dv' ⊢
            obtain ⟨b, rfl, sb⟩ := dp_row dv'
            have hJF6 := S6 _ _ hJF
            refine iteF ⟨_, rfl, .inl ⟨rfl, _, SqL.of hJF6⟩, _, rfl, F, us, _, rfl, rfl, hJF6, Nat.lt_of_lt_of_le (by omega : us.length < 1800000) (by decide), ⟨_, _, rfl⟩, ?_, ?_, us ++ [.ref b], upd_same, by rw [List.length_append, List.length_singleton, lu], ?_⟩
            · exact write_sameW (S.trans S6) hF
            · rw [fa2 (by rw [lf, hr])]
              rfl
            · have hd : ((wordsOf ts).drop 1)[i]? = some ws := by rw [List.getElem?_drop]; exact hls
              rw [List.take_add_one, hd, List.map_append]
              exact paired_snoc (Paired.mapP pu fun v r ⟨b', e1, e2⟩ => ⟨b', e1, sqT_put (sameT S6 e2) hJF6⟩) ⟨b, rfl, sqT_put sb hJF6⟩
      · rintro σ J ⟨⟨y3, y4, rfl⟩, S, hfw, us, hJF, lu, pu⟩
        have en : ((ts.length : Int) - 1).toNat = ts.length - 1 := by omega
        have tpos : 0 < ts.length := by rw [et, List.length_cons]; omega
        have fw : faultW 0 (wordsOf ts) = none := by
          rw [hfw, en, show 1 + (ts.length - 1) = (wordsOf ts).length by omega, List.drop_length]
          rfl
        have tk : ((wordsOf ts).drop 1).take (((ts.length : Int) - 1).toNat) = (wordsOf ts).drop 1 := List.take_of_length_le (by rw [List.length_drop]; omega)
        rw [tk] at pu
        refine ⟨_, rfl, _, rfl, F, us, rfl, .inl ⟨SqL.of hJF, fun l hl => ⟨by show 2 ≤ sizeLine; decide, fun q hq => k (.ref q) _ (((S2.trans S).trans (same_new hl)).trans (same_new hq)) ?_⟩⟩⟩
        have N1 : Same J (upd J l (.tup us)) := same_new hl
        have N2 : Same (upd J l (.tup us)) (upd (upd J l (.tup us)) q (.tup [v, .ref l])) := same_new hq
        unfold rowsReadD
        rw [fw]
        unfold foundD
        rw [els]
        refine .tup (SqT.of upd_same) (.cons (dpSame ((S.trans N1).trans N2) _ _ dv) (.cons (.tup (SqT.of (N2 _ _ upd_same)) ?_) .nil))
        rw [els] at pu
        have conv2 : ∀ {J9 : Hp}, Same J J9 → ∀ {us : List V} {rs : List Row}, Paired (fun (v : V) (r : Row) => ∃ b, v = .ref b ∧ SqT K J b [.str r.1, .int r.2.1, .int r.2.2]) us rs → DpAll K J9 us (rs.map rowD) := by
          intro J9 S9 us rs h
          induction h with
          | nil => exact .nil
          | cons a _ ih =>
            obtain ⟨b, rfl, sb⟩ := a
            exact .cons (.tup (sameT S9 sb) (.cons (.str _) (.cons (.int _) (.cons (.int _) .nil)))) ih
        exact conv2 (N1.trans N2) pu
theorem ok_lreadt (T : Txt K mg) : FnOk P w K mg base CX0 5 T.a_read_text T.d_read_text ["_law_text_here"] (sp_lreadt K) := by
  have G_rows_read : FnOk P w K mg base CX0 4 T.a_rows_read T.d_rows_read ["_law_rows"] (sp_lrows K) := ok_lrows T
  refine T.F_read_text.ok sc_read_text (fun vs H Q E h => ?_) (fun cdv A outer s H vs Q E hr h => ?_)
  · obtain ⟨t, rfl, _⟩ := h
    rfl
  · obtain ⟨t, rfl, lt, k⟩ := h
    refine ⟨_, (pss_cons (ps_set (i := 1) sc_read_text.nd rfl (Or.inl rfl) (pe_split (pv 0) pe_str))
      (Evl.pss_cut (ps_set (i := 2) sc_read_text.nd rfl (Or.inl rfl) (pe_and (pe_cmpR op_gt (pe_callB (id := "len") call_len_seq (by rfl) T.m_len (by decide +kernel) (pa_cons (pv 1) pa_nil)) pe_int (nomark _)) (pe_one (pe_cmpR op_eq (pe_ix ix_list (pv 1) (pe_un un_neg pe_int) (fun _ _ => rfl)) pe_str (nomark _)))))
      (Evl.pss_cut (ps_set (i := 1) sc_read_text.nd rfl (Or.inl rfl) (pe_ifExp (pt_val (pv 2)) (pe_slice sl_list (pv 1) po_none (po_some (pe_un un_neg pe_int))) (pv 1)))
      (pss_cons (ps_set (i := 3) sc_read_text.nd rfl (Or.inl rfl) (pe_call G_rows_read (hr.mono (by omega)) (by rfl) T.g_rows_read T.F_rows_read.kp T.b_rows_read .nil pass0 (pa_cons (pv 1) pa_nil)))
      (pss_cons (ps_if (pt_val (pe_callB (id := "isinstance") (call_isD "list" (by decide)) (by rfl) T.m_isinstance (by decide +kernel) (pa_cons (pv 3) (pa_cons (pe_bltn (v := .ty "list") (by rfl) T.m_list (by decide +kernel) rfl) pa_nil))))
        (pss_one (ps_ret (pv 3)))
        pss_nil)
      (pss_cons (ps_for PassesOwn.never rfl (pi_enumT (by rfl) T.m_enumerate (pa_cons (pe_ix ix_tup (pv 3) pe_int (fun _ _ => rfl)) pa_nil)) (pg_tup (by rfl) (pgs_cons (pg_name (i := 4) sc_read_text.nd rfl (Or.inl rfl)) (pgs_cons (pg_name (i := 5) sc_read_text.nd rfl (Or.inl rfl)) pgs_nil)))
        (pss_one (ps_for PassesOwn.never rfl (pi_tup (pe_tup (pa_cons pe_int (pa_cons pe_int pa_nil)))) (pg_name (i := 6) sc_read_text.nd rfl (Or.inl rfl))
        (pss_one (ps_if (pt_cmpR op_ge (pe_ix ix_tup (pv 5) (pv 6) (fun _ _ => rfl)) (pe_callB (id := "len") call_len_seq (by rfl) T.m_len (by decide +kernel) (pa_cons (pe_ix ix_tup (pv 3) pe_int (fun _ _ => rfl)) pa_nil)) (nomark _))
        (pss_one (ps_ret (pe_lst (pa_cons (pe_op op_add (pv 4) pe_int) (pa_cons (pv 6) pa_nil)))))
        pss_nil)))))
      (pss_one (ps_ret (pe_ifExp (PW.pt (pw_or (pt_cmpR (op_eqD hr.units) (pe_ix ix_tup (pv 3) pe_int (fun _ _ => rfl)) (pe_tup pa_nil) (nomark _)) (pw_or1 (pt_not (pt_val (pv 2)))))) (pe_lst (pa_cons (pe_callB (id := "len") call_len_seq (by rfl) T.m_len (by decide +kernel) (pa_cons (pv 1) pa_nil)) (pa_cons pe_int pa_nil))) (pv 3)))))))))), ?_⟩
    obtain ⟨zne, hZ⟩ := rows_told t
    obtain ⟨ne, lens⟩ := split_all (x := t) (y := "\n") (by decide) (by decide +kernel)
    have cnt := PyProof.Rows.split_le t "\n"
    have zdef : rowsOfT t = if endedT t = true then (Txt.split t "\n").dropLast else Txt.split t "\n" := by
      unfold rowsOfT endedT
      by_cases c : 1 < (Txt.split t "\n").length ∧ (Txt.split t "\n").getLastD "" = ""
      · rw [if_pos c, decide_eq_true c, if_pos rfl]
      · rw [if_neg c, decide_eq_false c, if_neg Bool.false_ne_true]
    have ndef : endedT t = decide (1 < (Txt.split t "\n").length ∧ (Txt.split t "\n").getLastD "" = "") := rfl
    refine ⟨_, rfl, ⟨_, rfl⟩, _, _, rfl, rfl, rfl, Nat.le_trans (Nat.add_le_add_right lt 2) (by decide), fun p hp => ?_⟩
    generalize Txt.split t "\n" = ps at ne lens cnt zdef ndef ⊢
    have S1 : Same H (upd H p (.lst (ps.map V.str))) := same_new hp
    have L1 : (upd H p (.lst (ps.map V.str))) p = some (.lst (ps.map V.str)) := upd_same
    show (Evl.tCut _ _ : TS) _ _ (upd H p (.lst (ps.map V.str)))
    generalize upd H p (.lst (ps.map V.str)) = J1 at S1 L1 ⊢
    have lm : (ps.map V.str).length = ps.length := List.length_map _
    refine ⟨fun σ J => σ = [some (.str t), some (.ref p), some (.bl (endedT t)), none, none, none, none] ∧ J = J1, ?_, ?_⟩
    · refine ⟨_, rfl, p, _, rfl, .inl (SqL.of L1), _, _, rfl, rfl, _, rfl, ?_⟩
      rw [lm]
      by_cases c1 : (1 : Int) < (ps.length : Int)
      · rw [decide_eq_true c1]
        have c1' : 1 < ps.length := by omega
        have hat : atI (ps.map V.str) (-1) = some (.str (ps.getLastD "")) := by
          obtain ⟨ys, y, eps⟩ : ∃ ys y, ps = ys ++ [y] := ⟨_, _, (List.dropLast_concat_getLast ne).symm⟩
          rw [eps, List.getLastD_concat, List.map_append]
          exact atI_last _ _
        refine iteT ⟨_, rfl, 1, rfl, p, _, -1, _, rfl, rfl, SqL.of L1, hat, rfl, ?_⟩
        refine ⟨?_, rfl⟩
        rw [ndef, str_decL]
        by_cases e : ps.getLastD "" = ""
        · rw [decide_eq_true e, decide_eq_true ⟨c1', e⟩]
          rfl
        · rw [decide_eq_false e, decide_eq_false (fun z => e z.2)]
          rfl
      · rw [decide_eq_false c1]
        refine iteF ⟨?_, rfl⟩
        rw [ndef, decide_eq_false (fun z => c1 (by omega))]
        rfl
    · rintro σ J ⟨rfl, rfl⟩
      refine ⟨fun σ J => ∃ R : Addr, σ = [some (.str t), some (.ref R), some (.bl (endedT t)), none, none, none, none] ∧ Same H J ∧ J R = some (.lst ((rowsOfT t).map V.str)), ?_, ?_⟩
      · refine ⟨_, rfl, _, rfl, ?_⟩
        cases e : endedT t with
        | true =>
          rw [e, if_pos rfl] at zdef
          refine iteT ⟨_, rfl, 1, rfl, -1, rfl, p, _, rfl, SqL.of L1, fun c hc => ?_⟩
          have l1 : 0 < (ps.map V.str).length := by
            rw [lm]
            rw [e] at ndef
            have := (of_decide_eq_true ndef.symm).1
            omega
          have cutI : cutV (ps.map V.str) none (some (-1)) = (rowsOfT t).map V.str := by
            have e : HT.sIx (ps.map V.str).length (ps.map V.str).length (some (-1)) = (ps.map V.str).length - 1 := by
              show (if (-1 : Int) < 0 then ((-1 : Int) + ((ps.map V.str).length : Int)).toNat else min (-1 : Int).toNat (ps.map V.str).length) = (ps.map V.str).length - 1
              rw [if_pos (by decide)]
              omega
            unfold cutV
            rw [HT.sIx_none, e, List.drop_zero, Nat.sub_zero, zdef, List.map_dropLast, List.dropLast_eq_take]
          rw [cutI]
          exact ⟨c, rfl, S1.trans (same_new hc), upd_same⟩
        | false =>
          rw [e, if_neg Bool.false_ne_true] at zdef
          refine iteF ⟨_, rfl, p, rfl, S1, ?_⟩
          rw [zdef]
          exact L1
      · rintro σ J ⟨R, rfl, SR, LR⟩
        have zlen : (rowsOfT t).length ≤ 900002 := by
          rw [zdef]
          split
          · rw [List.length_dropLast]; omega
          · omega
        have zp : ∀ q ∈ rowsOfT t, q.length ≤ 900000 := fun q hq => by
          rw [zdef] at hq
          refine Nat.le_trans (lens q ?_) lt
          split at hq
          · exact List.dropLast_subset _ hq
          · exact hq
        generalize rowsOfT t = zs at zne hZ zlen zp LR
        generalize endedT t = en at hZ ⊢
        refine ⟨_, rfl, R, zs, rfl, LR, zne, zlen, zp, fun v J2 S2 dv => ?_⟩
        have SH2 := SR.trans S2
        refine ⟨_, rfl, v, _, rfl, dv, _, rfl, ?_⟩
        cases hfw : faultW 0 (wordsOf zs) with
        | some e1 =>
          have er : rowsReadD (wordsOf zs) = .list [.int (e1.1 : Int), .int (e1.2 : Int)] := by unfold rowsReadD; rw [hfw]
          have et : toldD t = .list [.int (e1.1 : Int), .int (e1.2 : Int)] := by
            have rf : readF t = some e1 := by
              rcases hZ with ⟨h1, _⟩ | ⟨h1, h2⟩
              · unfold readF
                rw [h1, hfw]
              · rw [h1] at hfw
                have z : faultW 0 (wordsOf [("" : Str)]) = some (0, 0) := by decide +kernel
                rw [z] at hfw
                rw [h2, hfw]
            unfold toldD
            rw [rf]
          rw [er] at dv ⊢
          exact iteT ⟨_, rfl, k v J2 SH2 (by rw [et]; exact dv)⟩
        | none =>
          have er : rowsReadD (wordsOf zs) = foundD (wordsOf zs) := by unfold rowsReadD; rw [hfw]
          obtain ⟨hl, he⟩ : linesT t = wordsOf zs ∧ endsT t = en := by
            rcases hZ with h | ⟨h1, h2⟩
            · exact h
            · rw [h1] at hfw
              have z : faultW 0 (wordsOf [("" : Str)]) = some (0, 0) := by decide +kernel
              rw [z] at hfw
              cases hfw
          rw [er] at dv ⊢
          refine iteF ?_
          have lf : ∀ (i : Nat) (ws : List Str), (wordsOf zs)[i]? = some ws → lineFault i ws = none := fun i ws h => by
            have := faultW_none hfw i ws h
            rw [Nat.zero_add] at this
            exact this
          have rowl : ∀ ws ∈ (wordsOf zs).drop 1, ∃ (d : Str) (x y : Int), ws = [d, dg x, dg y] ∧ deedOk d ∧ 0 ≤ x ∧ x ≤ 5 ∧ 0 ≤ y ∧ y ≤ 5 := fun ws hw => by
            obtain ⟨i, hi⟩ := List.getElem?_of_mem hw
            rw [List.getElem?_drop] at hi
            have z := lf _ ws hi
            unfold lineFault at z
            rw [if_neg (by omega)] at z
            split at z
            · cases z
            · exact row_words z
          unfold foundD at dv
          have lz : (wordsOf zs).length = zs.length := List.length_map _
          have zpos : 0 < zs.length := by
            cases zs with
            | nil => exact absurd rfl zne
            | cons _ _ => rw [List.length_cons]; omega
          have eT0 : ∀ e, readF t = e → (match e with | some e => PyData.list [.int (e.1 : Int), .int (e.2 : Int)] | none => foundD (wordsOf zs)) = toldD t := fun e h => by
            subst h
            unfold toldD
            cases readF t with
            | some e => rfl
            | none =>
              show foundD (wordsOf zs) = _
              unfold foundD wordT rowsT
              rw [hl]
          have eR : readF t = match faultN (((wordsOf zs).length : Int) - 1) 1 ((wordsOf zs).drop 1) with
              | some e => some e
              | none => if (wordsOf zs).length < 2 ∨ en = false then some ((wordsOf zs).length, 0) else none := by
            unfold readF
            rw [hl, hfw, he]
            try rfl
          have lD : (((wordsOf zs).drop 1).length : Int) = ((wordsOf zs).length : Int) - 1 := by
            rw [List.length_drop]
            omega
          have lD2 : (wordsOf zs).length < 2 ↔ (wordsOf zs).drop 1 = [] := by
            rw [← List.length_eq_zero_iff, List.length_drop]
            omega
          have dvF : Dp K J2 v (foundD (wordsOf zs)) := dv
          rw [← lD] at eR
          cases dv with
          | tup hq da =>
          cases da with
          | cons dh da =>
          cases da with
          | cons dt da =>
          cases da
          rename_i q vh vt
          generalize hD : (wordsOf zs).drop 1 = D at *
          have shR : SeqAt.shaped (tableD (D.map rowT)) = true := rows_shaped fun r hr => by
            obtain ⟨ws, hw, rfl⟩ := List.mem_map.mp hr
            obtain ⟨d, x, y, rfl, hd, _⟩ := rowl ws hw
            exact hd
          have dt0 := dt
          obtain ⟨ta, xs, rfl, hta, lxs, hx⟩ := dp_table dt
          rw [List.length_map] at lxs
          refine ⟨_, rfl, q, _, 1, _, rfl, rfl, hq, atI_nat (j := 1) rfl, ta, xs, rfl, hta, for_it (walk_enumT (K := K) (a := ta) (xs := xs) (c := 0)) (fun i σ J => (∃ y4 y5 y6, σ = [some (.str t), some (.ref R), some (.bl en), some (.ref q), y4, y5, y6]) ∧ Same J2 J ∧ faultN (D.length : Int) 1 D = faultN (D.length : Int) (1 + i) (D.drop i)) ⟨⟨none, none, none, rfl⟩, Same.refl _, rfl⟩ (fun i σ J _ ⟨_, S, _⟩ => sameT S hta) ?_ ?_⟩
          · rintro i x σ M M' hi ⟨⟨y4, y5, y6, rfl⟩, S, hf⟩ ⟨Tp, x1, x2, rfl, hTn, rfl, e1, hxi⟩
            cases e1
            have hi' : i < D.length := by rw [← lxs]; exact (List.getElem?_eq_some_iff.mp hxi).1
            have hwd : D[i]? = some D[i] := List.getElem?_eq_getElem hi'
            obtain ⟨b, eb, sb⟩ := hx i (rowT D[i]) (by rw [List.getElem?_map, hwd]; rfl)
            have exb : x2 = .ref b := Option.some.inj (hxi.symm.trans eb)
            subst exb
            generalize D[i] = ws at hwd sb
            have sb : SqT K J2 b [.str (ws.getD 0 ""), .int (numOf (ws.getD 1 "")), .int (numOf (ws.getD 2 ""))] := sb
            obtain ⟨fa1, fa2⟩ := faultN_at hf hwd
            have R1 : Same J2 (upd M Tp (.tup [.int (0 + (i : Int)), .ref b])) := S.trans (same_new hTn)
            have hTp : upd M Tp (.tup [.int (0 + (i : Int)), .ref b]) Tp = some (.tup [.int (0 + (i : Int)), .ref b]) := upd_same
            generalize upd M Tp (.tup [.int (0 + (i : Int)), .ref b]) = M4 at *
            have bad : ∀ (m : Nat) (J' : Hp), Same M4 J' → rowFault (D.length : Int) ws = some m → ∀ l, J' l = none → Q (.ref l) (upd J' l (.lst [.int (0 + (i : Int) + 1), .int (m : Int)])) := fun m J' S' hm l hl' => by
              refine k (.ref l) _ (((SH2.trans R1).trans S').trans (same_new hl')) ?_
              have e3 : readF t = some (1 + i, m) := by rw [eR, fa1 m hm]
              rw [← eT0 _ e3]
              refine .lst (SqL.of upd_same) ?_
              rw [show (0 + (i : Int) + 1) = ((1 + i : Nat) : Int) by omega]
              exact .cons (.int _) (.cons (.int _) .nil)
            refine ⟨Tp, _, rfl, SqT.of hTp, rfl, _, _, rfl, _, _, rfl, rfl, ?_⟩
            refine ⟨by show 2 ≤ sizeLine; decide, fun tt gt => ?_⟩
            have S0 : Same M4 (upd M4 tt (.tup [.int 1, .int 2])) := same_new gt
            have LT : (upd M4 tt (.tup [.int 1, .int 2])) tt = some (.tup [.int 1, .int 2]) := upd_same
            show (∃ a, V.ref tt = V.ref a ∧ _)
            generalize upd M4 tt (.tup [V.int 1, V.int 2]) = M5 at S0 LT ⊢
            have RR := R1.trans S0
            refine ⟨tt, rfl, ⟨_, SqT.of LT⟩, for_tup (K := K) (a := tt) (xs := [.int 1, .int 2]) (fun j σ J => (∃ y6, σ = [some (.str t), some (.ref R), some (.bl en), some (.ref q), some (.int (0 + (i : Int))), some (.ref b), y6]) ∧ J = M5 ∧ (1 ≤ j → ¬ (D.length : Int) ≤ numOf (ws.getD 1 "")) ∧ (2 ≤ j → ¬ (D.length : Int) ≤ numOf (ws.getD 2 ""))) ⟨⟨_, rfl⟩, rfl, fun h => absurd h (by decide), fun h => absurd h (by decide)⟩ (fun j σ J _ ⟨_, e, _⟩ => by rw [e]; exact SqT.of LT) ?_ ?_⟩
            · rintro j x σ J hx' ⟨⟨y6', rfl⟩, rfl, n1, n2⟩
              match j, hx', n1, n2 with
              | 0, hx', n1, n2 =>
                cases hx'
                refine ⟨_, rfl, _, rfl, b, _, 1, _, rfl, rfl, sameT RR sb, atI_nat (j := 1) rfl, _, rfl, q, _, 1, _, rfl, rfl, sameT RR hq, atI_nat (j := 1) rfl, ta, xs, rfl, .inr (sameT RR hta), _, _, rfl, rfl, _, rfl, ?_⟩
                rw [lxs]
                by_cases c1 : (D.length : Int) ≤ numOf (ws.getD 1 "")
                · rw [decide_eq_true c1]
                  exact iteT ⟨_, rfl, _, _, rfl, rfl, _, rfl, by show 2 ≤ sizeLine; decide, fun l hl' => bad 1 _ S0 (by unfold rowFault; rw [if_pos c1]) l hl'⟩
                · rw [decide_eq_false c1]
                  exact iteF ⟨⟨_, rfl⟩, rfl, fun _ => c1, fun h => absurd h (by decide)⟩
              | 1, hx', n1, n2 =>
                cases hx'
                have c1 := n1 (Nat.le_refl _)
                refine ⟨_, rfl, _, rfl, b, _, 2, _, rfl, rfl, sameT RR sb, atI_nat (j := 2) rfl, _, rfl, q, _, 1, _, rfl, rfl, sameT RR hq, atI_nat (j := 1) rfl, ta, xs, rfl, .inr (sameT RR hta), _, _, rfl, rfl, _, rfl, ?_⟩
                rw [lxs]
                by_cases c2 : (D.length : Int) ≤ numOf (ws.getD 2 "")
                · rw [decide_eq_true c2]
                  exact iteT ⟨_, rfl, _, _, rfl, rfl, _, rfl, by show 2 ≤ sizeLine; decide, fun l hl' => bad 2 _ S0 (by unfold rowFault; rw [if_neg c1, if_pos c2]) l hl'⟩
                · rw [decide_eq_false c2]
                  exact iteF ⟨⟨_, rfl⟩, rfl, fun _ => c1, fun _ => c2⟩
            · rintro σ J ⟨⟨y6', rfl⟩, rfl, n1, n2⟩
              exact ⟨⟨_, _, _, rfl⟩, RR, fa2 (by unfold rowFault; rw [if_neg (n1 (by decide)), if_neg (n2 (by decide))])⟩
          · rintro σ M ⟨⟨y4, y5, y6, rfl⟩, S, hf⟩
            have hf' : faultN (D.length : Int) 1 D = none := by
              rw [hf, lxs, List.drop_length]
              rfl
            rw [hf'] at eR
            have eR' : readF t = if (wordsOf zs).length < 2 ∨ en = false then some ((wordsOf zs).length, 0) else none := eR
            have list0 : readF t = some ((wordsOf zs).length, 0) → ∀ (M' : Hp) l, Same M M' → M' l = none → Q (.ref l) (upd M' l (.lst [.int ((zs.length : Nat) : Int), .int 0])) := fun e3 M' l S' hl' => by
              refine k (.ref l) _ (((SH2.trans S).trans S').trans (same_new hl')) ?_
              rw [← eT0 _ e3]
              refine .lst (SqL.of upd_same) ?_
              rw [← lz]
              exact .cons (.int _) (.cons (.int _) .nil)
            refine ⟨_, rfl, q, _, 1, _, rfl, rfl, sameT S hq, atI_nat (j := 1) rfl, by show 0 ≤ sizeLine; decide, fun z hz => ?_⟩
            have SZ : Same M (upd M z (.tup [])) := same_new hz
            have LZ : (upd M z (.tup [])) z = some (.tup []) := upd_same
            refine ⟨tableD (D.map rowT), .tuple [], dpSame (S.trans SZ) _ _ dt0, .tup (SqT.of LZ) .nil, shR, by decide, ?_⟩
            refine ⟨_, rfl, ?_⟩
            have eN : PyData.eqv (tableD (D.map rowT)) (.tuple []) = D.isEmpty := by
              unfold tableD
              rw [nil_tup]
              cases D <;> rfl
            rw [eN]
            have LRz := SZ _ _ (S _ _ (S2 _ _ LR))
            have lzm : (zs.map V.str).length = zs.length := List.length_map _
            generalize upd M z (.tup []) = M5 at SZ LZ LRz ⊢
            have fin : readF t = some ((wordsOf zs).length, 0) → ∀ l, M5 l = none → Q (.ref l) (upd M5 l (.lst [.int ((zs.map V.str).length : Int), .int 0])) := fun e3 l hl' => by
              rw [lzm]
              exact list0 e3 M5 l SZ hl'
            cases eD : D with
            | nil =>
              refine iteT (iteT ⟨_, rfl, R, _, rfl, .inl (SqL.of LRz), by show 2 ≤ sizeLine; decide, fun l hl' => fin ?_ l hl'⟩)
              rw [eR', if_pos (.inl (lD2.mpr eD))]
            | cons d0 dr =>
              refine iteF ⟨_, rfl, _, rfl, ?_⟩
              cases een : en with
              | false =>
                refine iteT ⟨_, rfl, R, _, rfl, .inl (SqL.of LRz), by show 2 ≤ sizeLine; decide, fun l hl' => ?_⟩
                exact fin (by rw [eR', if_pos (.inr een)]) l hl'
              | true =>
                refine iteF ⟨_, rfl, k _ M5 ((SH2.trans S).trans SZ) ?_⟩
                have e3 : readF t = none := by
                  rw [eR', if_neg (fun z => z.elim (fun z => by rw [lD2.mp z] at eD; cases eD) (fun z => by rw [een] at z; cases z))]
                rw [← eT0 _ e3]
                exact dpSame (S.trans SZ) _ _ dvF
end

/-! ### texts cut into lines and words -/
def Clean (ws : List Str) : Prop := ws ≠ [] ∧ ∀ w ∈ ws, 32 ∉ TL.tl w ∧ 10 ∉ TL.tl w
theorem joinL_free {s : Nat} {S : List Nat} (hS : s ∉ S) : ∀ {ps : List (List Nat)}, (∀ p ∈ ps, s ∉ p) → s ∉ TL.joinL S ps
  | [], _ => List.not_mem_nil
  | [p], h => h p List.mem_cons_self
  | p :: q :: r, h => by
    show s ∉ p ++ (S ++ TL.joinL S (q :: r))
    intro z
    rcases List.mem_append.mp z with z | z
    · exact h p List.mem_cons_self z
    · rcases List.mem_append.mp z with z | z
      · exact hS z
      · exact joinL_free hS (ps := q :: r) (fun p hp => h p (List.mem_cons_of_mem _ hp)) z
theorem line_free {ws : List Str} (h : Clean ws) : 10 ∉ TL.tl (Txt.join " " ws) := by
  rw [TL.join_eq, TL.tl_join]
  refine joinL_free (by decide) fun p hp => ?_
  obtain ⟨w, hw, rfl⟩ := List.mem_map.mp hp
  exact (h.2 w hw).2
theorem split_line {ws : List Str} (h : Clean ws) : Txt.split (Txt.join " " ws) " " = ws := by
  exact TL.split_join (y := " ") (s := 32) (S := []) (by decide) (by decide +kernel) h.1 fun p hp => (h.2 p hp).1
theorem joinL_ended (S : List Nat) : ∀ ps : List (List Nat), TL.joinL S (ps ++ [[]]) = TL.joinL [] (ps.map (· ++ S))
  | [] => rfl
  | [p] => by
    show p ++ (S ++ []) = p ++ S
    rw [List.append_nil]
  | p :: q :: r => by
    have ih := joinL_ended S (q :: r)
    show p ++ (S ++ TL.joinL S ((q :: r) ++ [[]])) = (p ++ S) ++ ([] ++ TL.joinL [] ((q :: r).map (· ++ S)))
    rw [ih, List.nil_append, List.append_assoc]
theorem text_ended (ls : List (List Str)) : textT ls = Txt.join "\n" (ls.map (Txt.join " ") ++ [("" : Str)]) := by
  refine TL.ext_tl ?_
  unfold textT
  rw [TL.join_eq, TL.join_eq, TL.tl_join, TL.tl_join, List.map_append, List.map_map, List.map_map]
  have e := joinL_ended (TL.tl "\n") (ls.map (TL.tl ∘ Txt.join " "))
  rw [List.map_map] at e
  have e0 : TL.tl ("" : Str) = [] := rfl
  rw [e0]
  show TL.joinL [] (ls.map (TL.tl ∘ lineT)) = TL.joinL (TL.tl "\n") (ls.map (TL.tl ∘ Txt.join " ") ++ [[]])
  rw [e]
  congr 1
  refine List.map_congr_left fun ws _ => ?_
  show TL.tl (Txt.join " " ws ++ "\n") = TL.tl (Txt.join " " ws) ++ TL.tl "\n"
  exact TL.tl_append _ _
theorem split_text {ls : List (List Str)} (h : ∀ ws ∈ ls, Clean ws) : Txt.split (textT ls) "\n" = ls.map (Txt.join " ") ++ [("" : Str)] := by
  rw [text_ended]
  refine TL.split_join (y := "\n") (s := 10) (S := []) (parts := ls.map (Txt.join " ") ++ [("" : Str)]) (by decide) (by decide +kernel) (by simp) fun p hp => ?_
  rcases List.mem_append.mp hp with hp | hp
  · obtain ⟨ws, hw, rfl⟩ := List.mem_map.mp hp
    exact line_free (h ws hw)
  · rw [List.mem_singleton.mp hp]
    decide
theorem dg_free {j : Int} {s : Nat} (h0 : 0 ≤ j) (h : s < 48 ∨ 57 < s) : s ∉ TL.tl (dg j) := by
  obtain ⟨n, rfl⟩ : ∃ n : Nat, j = (n : Int) := ⟨j.toNat, (Int.toNat_of_nonneg h0).symm⟩
  unfold dg
  rw [TL.tl_num]
  exact TL.numL_free h
theorem clean_house {z r g : Int} (h : HouseOf 81 z r g) : Clean (houseW z r g) := by
  obtain ⟨z2, z4, r1, r6, g0, g3, _⟩ := h
  refine ⟨by simp [houseW], fun w hw => ?_⟩
  simp only [houseW, List.mem_cons, List.not_mem_nil, or_false] at hw
  rcases hw with e | e | e | e <;> rw [e]
  · decide
  · exact ⟨dg_free (by omega) (.inl (by decide)), dg_free (by omega) (.inl (by decide))⟩
  · exact ⟨dg_free (by omega) (.inl (by decide)), dg_free (by omega) (.inl (by decide))⟩
  · exact ⟨dg_free (by omega) (.inl (by decide)), dg_free (by omega) (.inl (by decide))⟩
theorem clean_row {m : Int} {r : Row} (h : RowOf m r) : Clean (rowW r) := by
  obtain ⟨hd, a0, a1, b0, b1⟩ := h
  refine ⟨by simp [rowW], fun w hw => ?_⟩
  simp only [rowW, List.mem_cons, List.not_mem_nil, or_false] at hw
  rcases hw with e | e | e <;> rw [e]
  · rcases hd with e | e | e <;> (rw [e]; decide)
  · exact ⟨dg_free (by omega) (.inl (by decide)), dg_free (by omega) (.inl (by decide))⟩
  · exact ⟨dg_free (by omega) (.inl (by decide)), dg_free (by omega) (.inl (by decide))⟩

/-! ### texts are plain; a house and a table as one value -/
theorem text_tame {ls : List (List Str)} (h : ∀ ws ∈ ls, ∀ w ∈ ws, ∀ c ∈ TL.tl w, c < 256) : ∀ c ∈ TL.tl (textT ls), c < 256 := by
  intro c hc
  refine Nat.lt_of_not_le fun le => ?_
  revert hc
  unfold textT
  rw [TL.join_eq, TL.tl_join]
  refine joinL_free List.not_mem_nil fun p hp => ?_
  obtain ⟨x, hx, rfl⟩ := List.mem_map.mp hp
  obtain ⟨ws, hw, rfl⟩ := List.mem_map.mp hx
  unfold lineT
  rw [TL.tl_append, TL.join_eq, TL.tl_join]
  intro z
  rcases List.mem_append.mp z with z | z
  · refine joinL_free (s := c) (S := TL.tl " ") ?_ (fun p hp z => ?_) z
    · intro e
      have : c = 32 := List.mem_singleton.mp e
      omega
    · obtain ⟨w, hw2, rfl⟩ := List.mem_map.mp hp
      have := h ws hw w hw2 c z
      omega
  · have : c = 10 := List.mem_singleton.mp z
    omega
theorem dg_tame {j : Int} (h0 : 0 ≤ j) : ∀ c ∈ TL.tl (dg j), c < 256 := fun c hc => Nat.lt_of_not_le fun le => dg_free h0 (.inr (by omega)) hc
theorem tame_house {z r g : Int} (h : HouseOf 81 z r g) : ∀ w ∈ houseW z r g, ∀ c ∈ TL.tl w, c < 256 := by
  obtain ⟨z2, z4, r1, r6, g0, g3, _⟩ := h
  intro w hw
  simp only [houseW, List.mem_cons, List.not_mem_nil, or_false] at hw
  rcases hw with e | e | e | e <;> rw [e]
  · decide
  · exact dg_tame (by omega)
  · exact dg_tame (by omega)
  · exact dg_tame (by omega)
theorem tame_row {m : Int} {r : Row} (h : RowOf m r) : ∀ w ∈ rowW r, ∀ c ∈ TL.tl w, c < 256 := by
  obtain ⟨hd, a0, a1, b0, b1⟩ := h
  intro w hw
  simp only [rowW, List.mem_cons, List.not_mem_nil, or_false] at hw
  rcases hw with e | e | e <;> rw [e]
  · rcases hd with e | e | e <;> (rw [e]; decide)
  · exact dg_tame (by omega)
  · exact dg_tame (by omega)
/-- how long the texts are, and how long they show -/
theorem text_small {z r g : Int} {rs : List Row} (hz : HouseOf 81 z r g) (l6 : rs.length ≤ 6) (hrs : ∀ x ∈ rs, RowOf 100 x) : (textH z r g rs).length ≤ 2000 ∧ (PyData.shown (.str (textH z r g rs))).length ≤ 22000 := by
  let ls : List (List Str) := houseW z r g :: rs.map rowW
  have lls : ls.length = rs.length + 1 := by show (_ :: _).length = _; rw [List.length_cons, List.length_map]
  have inl : ∀ x ∈ ls, Short x := by
    intro x hx
    rcases List.mem_cons.mp hx with e | e
    · rw [e]; exact short_house hz
    · obtain ⟨y, hy, rfl⟩ := List.mem_map.mp e
      exact short_row (by decide) (hrs y hy)
  have tl5 : (textT ls).length ≤ 2000 := by
    have q := sum_le (f := fun x : List Str => (lineT x).length) (b := 201) (l := ls) fun x hx => (lineT_len (inl x hx)).2.2
    have j := join_len "" (ls.map lineT)
    have e0 : ("" : Str).length = 0 := rfl
    have e1 : ((ls.map lineT).map (fun x => x.length)) = ls.map fun x => (lineT x).length := by rw [List.map_map]; rfl
    rw [e0, Nat.mul_zero, Nat.add_zero, e1] at j
    exact Nat.le_trans j (Nat.le_trans q (by omega))
  have tm := text_tame (ls := ls) fun x hx => by
    rcases List.mem_cons.mp hx with e | e
    · rw [e]; exact tame_house hz
    · obtain ⟨y, hy, rfl⟩ := List.mem_map.mp e
      exact tame_row (hrs y hy)
  refine ⟨tl5, ?_⟩
  have b := StrLaws.reprText_len (textT ls) fun c hc => Nat.lt_trans (tm c hc) (by decide)
  simp only [PyData.shown]
  exact Nat.le_trans b (by omega)
theorem texts_show {t : Str} (h : (PyData.shown (.str t)).length ≤ 22000) : (PyData.list [.str t, .str t]).showable = true ∧ (PyData.list [.str t, .str t]).depth ≤ 50 ∧ (PyData.list [.str t, .str t]).shown.length ≤ sizeLine := by
  refine ⟨by simp [PyData.showable, PyData.showableAll], by simp [PyData.depth, PyData.depthAll], ?_⟩
  have l := listText_len_le (PyData.shownAll [.str t, .str t])
  have e : (PyData.list [.str t, .str t]).shown = listText (PyData.shownAll [.str t, .str t]) := by simp only [PyData.shown]
  have e2 : PyData.shownAll [.str t, .str t] = [PyData.shown (.str t), PyData.shown (.str t)] := by simp only [PyData.shownAll]
  rw [e]
  refine Nat.le_trans l ?_
  rw [e2]
  simp only [List.map_cons, List.map_nil, List.sum_cons, List.sum_nil, List.length_cons, List.length_nil]
  exact Nat.le_trans (by omega : _ ≤ 50000) (by decide)
def pairD (z r g : Int) (rs : List Row) : PyData := .tuple [houseT z r g, tableD rs]
theorem tiny_pairD {z r g : Int} {rs : List Row} (hz : HouseOf 81 z r g) (ht : TableOf 6 rs) : Tiny 140 40 3 (pairD z r g rs) := by
  obtain ⟨z2, z4, r1, r6, g0, g3, _⟩ := hz
  have tT := table_tiny (by decide : (6 : Int) ≤ 100) ht
  have a := tT.we
  have b := tT.de
  have l6 := ht.2.1
  refine ⟨?_, ?_, ?_⟩
  · simp only [pairD, nice, niceAll, Bool.and_eq_true]
    exact ⟨nice_three (by decide) (by omega) (by omega) (by omega), tT.ni, trivial⟩
  · simp only [pairD, wt, wtAll, houseT] at a ⊢
    omega
  · simp only [pairD, PyData.depth, PyData.depthAll, houseT] at b ⊢
    omega
theorem tiny_twoD {d : PyData} (h : Tiny 140 40 3 d) : Tiny 140 90 4 (.list [d, d]) := by
  have a := h.we
  have b := h.de
  refine ⟨?_, ?_, ?_⟩
  · simp only [nice, niceAll, Bool.and_eq_true]
    exact ⟨h.ni, h.ni, trivial⟩
  · simp only [wt, wtAll]
    omega
  · simp only [PyData.depth, PyData.depthAll]
    omega
mutual
theorem growDp {K : PySem.W.Frag} {H J : Hp} (g : Grow H J) : ∀ (d : PyData) (v : V), Dp K H v d → Dp K J v d
  | .none, _, h => by cases h; exact .non
  | .bool b, _, h => by cases h; exact .bl b
  | .int i, _, h => by cases h; exact .int i
  | .str x, _, h => by cases h; exact .str x
  | .list ds, _, h => by
    cases h with
    | lst h1 h2 => exact .lst (g.seq h1) (growDpAll g ds _ h2)
  | .tuple ds, _, h => by
    cases h with
    | tup h1 h2 => exact .tup (g.tup h1) (growDpAll g ds _ h2)
  | .dict _, _, h => by cases h
theorem growDpAll {K : PySem.W.Frag} {H J : Hp} (g : Grow H J) : ∀ (ds : List PyData) (vs : List V), DpAll K H vs ds → DpAll K J vs ds
  | [], _, h => by cases h; exact .nil
  | d :: ds, _, h => by
    cases h with
    | cons h1 h2 => exact .cons (growDp g d _ h1) (growDpAll g ds _ h2)
end

/-! ### what is told of a text is small -/
theorem wrong_le : ∀ (ws : List Str) (ps : List (List Str)) (k : Nat), wrongN ws ps = some k → k ≤ ps.length
  | [], [], _, h => by cases h
  | _ :: _, [], k, h => by cases h; exact Nat.le_refl _
  | [], _ :: _, k, h => by cases h; exact Nat.zero_le _
  | w :: ws, p :: ps, k, h => by
    rw [wrongN] at h
    split at h
    · cases e : wrongN ws ps with
      | none => rw [e] at h; cases h
      | some j =>
        rw [e] at h
        cases h
        have := wrong_le ws ps j e
        rw [List.length_cons]
        show j + 1 ≤ _
        omega
    · cases h
      exact Nat.zero_le _
theorem house_le {ws : List Str} {k : Nat} (h : houseFault ws = some k) : k ≤ 4 := by
  unfold houseFault at h
  cases e : wrongN ws HW with
  | none =>
    rw [e] at h
    simp only at h
    split at h
    · cases h; decide
    · cases h
  | some j =>
    have := wrong_le _ _ _ e
    have l4 : HW.length = 4 := rfl
    rw [e] at h
    simp only at h
    split at h
    · split at h
      · cases h; decide
      · cases h; omega
    · cases h; omega
theorem line_le {n : Nat} {ws : List Str} {k : Nat} (h : lineFault n ws = some k) : k ≤ 4 := by
  unfold lineFault at h
  split at h
  · exact house_le h
  · split at h
    · cases h; decide
    · have := wrong_le _ _ _ h
      have l3 : RW.length = 3 := rfl
      omega
theorem faultW_le : ∀ (ls : List (List Str)) (n : Nat) (e : Nat × Nat), faultW n ls = some e → e.1 ≤ n + ls.length ∧ e.2 ≤ 4
  | [], _, _, h => by cases h
  | ws :: r, n, e, h => by
    rw [faultW] at h
    cases hl : lineFault n ws with
    | some k =>
      rw [hl] at h
      cases h
      exact ⟨Nat.le_add_right _ _, line_le hl⟩
    | none =>
      rw [hl] at h
      have := faultW_le r (n + 1) e h
      rw [List.length_cons]
      exact ⟨by omega, this.2⟩
theorem faultN_le {R : Int} : ∀ (ls : List (List Str)) (n : Nat) (e : Nat × Nat), faultN R n ls = some e → e.1 ≤ n + ls.length ∧ e.2 ≤ 4
  | [], _, _, h => by cases h
  | ws :: r, n, e, h => by
    rw [faultN] at h
    cases hl : rowFault R ws with
    | some k =>
      rw [hl] at h
      cases h
      refine ⟨Nat.le_add_right _ _, ?_⟩
      unfold rowFault at hl
      split at hl
      · cases hl; show 1 ≤ 4; decide
      · split at hl
        · cases hl; show 2 ≤ 4; decide
        · cases hl
    | none =>
      rw [hl] at h
      have := faultN_le r (n + 1) e h
      rw [List.length_cons]
      exact ⟨by omega, this.2⟩
theorem faultN_none {R : Int} : ∀ {ls : List (List Str)} {n : Nat}, faultN R n ls = none → ∀ ws ∈ ls, rowFault R ws = none
  | [], _, _, _, h => absurd h List.not_mem_nil
  | w :: ls, n, e, ws, h => by
    rw [faultN] at e
    cases hl : rowFault R w with
    | some k => rw [hl] at e; cases e
    | none =>
      rw [hl] at e
      rcases List.mem_cons.mp h with z | z
      · rw [z]; exact hl
      · exact faultN_none e ws z
theorem lines_len (t : Str) : (linesT t).length ≤ t.length + 2 := by
  have c := PyProof.Rows.split_le t "\n"
  unfold linesT
  rw [List.length_map]
  split
  · rw [List.length_dropLast]; omega
  · exact c
theorem readF_le {t : Str} {e : Nat × Nat} (h : readF t = some e) : e.1 ≤ t.length + 3 ∧ e.2 ≤ 4 := by
  have c := lines_len t
  unfold readF at h
  cases e1 : faultW 0 (linesT t) with
  | some x =>
    rw [e1] at h
    cases h
    have := faultW_le _ _ _ e1
    exact ⟨by omega, this.2⟩
  | none =>
    rw [e1] at h
    simp only at h
    cases e2 : faultN (((linesT t).length : Int) - 1) 1 ((linesT t).drop 1) with
    | some x =>
      rw [e2] at h
      cases h
      have := faultN_le _ _ _ e2
      rw [List.length_drop] at this
      exact ⟨by omega, this.2⟩
    | none =>
      rw [e2] at h
      simp only at h
      split at h
      · cases h; exact ⟨by show (linesT t).length ≤ _; omega, Nat.zero_le _⟩
      · cases h
theorem readF_none {t : Str} (h : readF t = none) : ∃ (z r g : Int) (rs : List Row), HouseOf 81 z r g ∧ TableOf 6 rs ∧ toldD t = pairD z r g rs := by
  have h0 := h
  unfold readF at h
  cases e1 : faultW 0 (linesT t) with
  | some x => rw [e1] at h; cases h
  | none =>
  rw [e1] at h
  simp only at h
  cases e2 : faultN (((linesT t).length : Int) - 1) 1 ((linesT t).drop 1) with
  | some x => rw [e2] at h; cases h
  | none =>
  rw [e2] at h
  simp only at h
  split at h
  · cases h
  · rename_i n2
    have l2 : ¬ (linesT t).length < 2 := fun z => n2 (.inl z)
    have lf : ∀ (i : Nat) (ws : List Str), (linesT t)[i]? = some ws → lineFault i ws = none := fun i ws h => by
      have := faultW_none e1 i ws h
      rw [Nat.zero_add] at this
      exact this
    have rowl : ∀ ws ∈ (linesT t).drop 1, ∃ (d : Str) (x y : Int), ws = [d, dg x, dg y] ∧ deedOk d ∧ 0 ≤ x ∧ x ≤ 5 ∧ 0 ≤ y ∧ y ≤ 5 := fun ws hw => by
      obtain ⟨i, hi⟩ := List.getElem?_of_mem hw
      rw [List.getElem?_drop] at hi
      have z := lf _ ws hi
      unfold lineFault at z
      rw [if_neg (by omega)] at z
      split at z
      · cases z
      · exact row_words z
    have l7 : (linesT t).length ≤ 7 := by
      rcases Nat.lt_or_ge 7 (linesT t).length with q | q
      · have z := lf 7 _ (List.getElem?_eq_getElem q)
        unfold lineFault at z
        rw [if_neg (by decide), if_pos (by decide)] at z
        cases z
      · exact q
    have hh := lf 0 _ (List.getElem?_eq_getElem (show 0 < (linesT t).length by omega))
    have eh : (linesT t).headD [] = (linesT t)[0]'(by omega) := by
      rw [List.headD_eq_head?_getD, List.head?_eq_getElem?, List.getElem?_eq_getElem (by omega)]
      rfl
    have lR : ((rowsT t).length : Int) = ((linesT t).length : Int) - 1 := by
      unfold rowsT
      rw [List.length_map, List.length_drop]
      omega
    refine ⟨wordT t 1, wordT t 2, wordT t 3, rowsT t, ?_, ⟨by omega, by omega, fun x hx => ?_⟩, ?_⟩
    · unfold lineFault at hh
      rw [if_pos rfl] at hh
      unfold wordT
      rw [eh]
      generalize (linesT t)[0]'(by omega) = ws at hh
      unfold houseFault at hh
      have hw : wrongN ws HW = none := by
        cases e : wrongN ws HW with
        | none => rfl
        | some k =>
          rw [e] at hh
          simp only at hh
          split at hh
          · split at hh <;> cases hh
          · cases hh
      rw [hw] at hh
      simp only at hh
      have hb : ¬ badHouse ws = true := fun z => by rw [if_pos z] at hh; cases hh
      obtain ⟨z, r, g, rest, rfl, z2, z4, r1, r6, g0, g3⟩ := house_words (.inl hw)
      have n1 : numOf ((("house" : Str) :: dg z :: dg r :: dg g :: rest).getD 1 "") = z := numOf_dg (by omega) (by omega)
      have n2 : numOf ((("house" : Str) :: dg z :: dg r :: dg g :: rest).getD 2 "") = r := numOf_dg (by omega) (by omega)
      have n3 : numOf ((("house" : Str) :: dg z :: dg r :: dg g :: rest).getD 3 "") = g := numOf_dg (by omega) (by omega)
      rw [n1, n2, n3]
      unfold badHouse at hb
      rw [n1, n3] at hb
      refine ⟨z2, z4, r1, r6, g0, g3, ?_⟩
      by_cases c : z ^ (g + 1).toNat ≤ 81
      · exact c
      · rw [decide_eq_false c] at hb
        exact absurd rfl hb
    · rw [lR]
      obtain ⟨ws, hw, rfl⟩ := List.mem_map.mp hx
      have hf := faultN_none e2 ws hw
      obtain ⟨d, x, y, rfl, hd, x0, x5, y0, y5⟩ := rowl ws hw
      have n1 : numOf (([d, dg x, dg y] : List Str).getD 1 "") = x := numOf_dg (by omega) (by omega)
      have n2 : numOf (([d, dg x, dg y] : List Str).getD 2 "") = y := numOf_dg (by omega) (by omega)
      unfold rowFault at hf
      rw [n1, n2] at hf
      split at hf
      · cases hf
      · rename_i c1
        split at hf
        · cases hf
        · rename_i c2
          unfold rowT
          rw [n1, n2]
          exact ⟨hd, x0, by show x < _; omega, y0, by show y < _; omega⟩
    · unfold toldD
      rw [h0]
      rfl
theorem tiny_told {t : Str} (lt : t.length ≤ 900000) : Tiny 140 40 3 (toldD t) := by
  cases e : readF t with
  | none =>
    obtain ⟨z, r, g, rs, hz, ht, eq⟩ := readF_none e
    rw [eq]
    exact tiny_pairD hz ht
  | some x =>
    obtain ⟨a, b⟩ := readF_le e
    unfold toldD
    rw [e]
    have p : 1000000 < 2 ^ 140 := by decide +kernel
    refine ⟨?_, by simp [wt, wtAll], by simp [PyData.depth, PyData.depthAll]⟩
    simp only [nice, niceAll, Bool.and_true, Bool.and_eq_true, decide_eq_true_eq]
    omega

/-! ### odd words -/
/-- no longer than b, no line feed -/
def Wordy (b : Nat) (w : Str) : Prop := w.length ≤ b ∧ 10 ∉ TL.tl w
theorem Wordy.mono {b c : Nat} {w : Str} (h : Wordy b w) (l : b ≤ c) : Wordy c w := ⟨Nat.le_trans h.1 l, h.2⟩
theorem Wordy.app {b c : Nat} {x y : Str} (h : Wordy b x) (k : Wordy c y) : Wordy (b + c) (x ++ y) := by
  refine ⟨by rw [len_append]; exact Nat.add_le_add h.1 k.1, fun z => ?_⟩
  rw [TL.tl_append] at z
  rcases List.mem_append.mp z with z | z
  · exact h.2 z
  · exact k.2 z
theorem Wordy.cut {b : Nat} {x : Str} (h : Wordy b x) (lo hi : Option Int) : Wordy b (cutS x lo hi) := by
  refine ⟨Nat.le_trans (cutS_length x lo hi) h.1, fun z => h.2 ?_⟩
  have e : TL.tl (cutS x lo hi) = ((TL.tl x).drop (HT.sIx x.length 0 lo)).take (HT.sIx x.length x.length hi - HT.sIx x.length 0 lo) := by
    unfold cutS
    rfl
  rw [e] at z
  exact List.mem_of_mem_drop (List.mem_of_mem_take z)
theorem wordy_ones : Wordy 5000 (repS "1" 5000) := by
  refine ⟨by rw [len_repS]; decide, fun z => ?_⟩
  rw [tl_repS] at z
  obtain ⟨l, hl, hm⟩ := List.mem_flatten.mp z
  rw [List.eq_of_mem_replicate hl] at hm
  revert hm
  decide
def sp_oddw (K : PySem.W.Frag) : Sp := fun vs H Q _ => ∃ (p : Addr) (w : Str) (b n : Nat), vs = [.ref p, .str w] ∧ Wordy b w ∧ 5000 ≤ b ∧ b ≤ 9000 ∧ Deck K H p n ∧ n < 700000 ∧
  ∀ (w' : Str) (J : Hp), Wordy (b + 1) w' → Deck K J p (n + 1) → Keep p H J → Q (.str w') J
section
variable {P : Program} {w : World} {K : PySem.W.Frag} {mg : Str → Option Value} {base : Heap}
theorem ok_oddw (T : Txt K mg) : FnOk P w K mg base CX0 3 T.a_odd_word T.d_odd_word ["_law_deck_here", "_law_word"] (sp_oddw K) := by
  have G_one : FnOk P w K mg base CX0 2 T.a_one T.d_one ["_law_deck_here", "_law_items"] (sp_one K) := ok_one T
  refine T.F_odd_word.ok sc_odd_word (fun vs H Q E h => ?_) (fun cdv A outer s H vs Q E hr h => ?_)
  · obtain ⟨p, x, b, n, rfl, _⟩ := h
    rfl
  · obtain ⟨p, x, b, n, rfl, hw, b5, b9, D, hn, k⟩ := h
    refine ⟨_, (pss_cons (ps_set (i := 2) sc_odd_word.nd rfl (Or.inl rfl) (pe_lst (pa_cons pe_str (pa_cons pe_str (pa_cons pe_str (pa_cons pe_str (pa_cons pe_str (pa_cons pe_str (pa_cons pe_str (pa_cons pe_str (pa_cons pe_str (pa_cons pe_str (pa_cons pe_str (pa_cons pe_str (pa_cons pe_str (pa_cons pe_str (pa_cons pe_str (pa_cons pe_str (pa_cons pe_str (pa_cons pe_str pa_nil))))))))))))))))))))
      (pss_cons (ps_set (i := 2) sc_odd_word.nd rfl (Or.inl rfl) (pe_op op_cat (pv 2) (pe_lst (pa_cons pe_str (pa_cons pe_str (pa_cons pe_str (pa_cons (pe_op op_add_str (pv 1) pe_str) (pa_cons (pe_op op_add_str pe_str (pv 1)) (pa_cons (pe_op op_add_str (pv 1) pe_str) (pa_cons (pe_op op_add_str pe_str (pv 1)) (pa_cons (pe_slice sl_str (pv 1) (po_some pe_int) po_none) pa_nil)))))))))))
      (pss_cons (ps_set (i := 2) sc_odd_word.nd rfl (Or.inl rfl) (pe_op op_cat (pv 2) (pe_lst (pa_cons (pe_op op_repS pe_str pe_int) (pa_cons (pe_op op_add_str (pv 1) pe_str) pa_nil)))))
      (pss_one (ps_ret (pe_call G_one (hr.mono (by omega)) (by rfl) T.g_one T.F_one.kp T.b_one .nil pass0 (pa_cons (pv 0) (pa_cons (pv 2) pa_nil)))))))), ?_⟩
    have xl : x.length + 10 ≤ sizeLine := Nat.le_trans (Nat.add_le_add_right (Nat.le_trans hw.1 b9) 10) (by decide)
    have xl1 : x.length ≤ sizeLine := by omega
    have one1 : ∀ c : Str, c.length = 1 → x.length + c.length ≤ sizeLine := fun c hc => by omega
    have one2 : ∀ c : Str, c.length = 1 → c.length + x.length ≤ sizeLine := fun c hc => by omega
    have small : ∀ c : Str, c.length ≤ 10 → 10 ∉ TL.tl c → Wordy (b + 1) c := fun c h1 h2 => ⟨by omega, h2⟩
    have sign : ∀ c : Str, c.length = 1 → 10 ∉ TL.tl c → Wordy 1 c := fun c h1 h2 => ⟨by omega, h2⟩
    have all1 : ∀ v ∈ ([.str "", .str "0", .str "1", .str "2", .str "3", .str "4", .str "5", .str "6", .str "7", .str "00", .str "01", .str "-1", .str "+1", .str "1_0", .str "x", .str "10", .str "house", .str "named"] : List V), ∃ w' : Str, v = .str w' ∧ Wordy (b + 1) w' := fun v hv => by
      simp only [List.mem_cons, List.not_mem_nil, or_false] at hv
      rcases hv with e | e | e | e | e | e | e | e | e | e | e | e | e | e | e | e | e | e <;> exact ⟨_, e, small _ (by decide) (by decide)⟩
    have all2 : ∀ v ∈ ([.str "next", .str "wait", .str "Named", .str (x ++ " "), .str (" " ++ x), .str (x ++ "0"), .str ("0" ++ x), .str (cutS x (some 1) none)] : List V), ∃ w' : Str, v = .str w' ∧ Wordy (b + 1) w' := fun v hv => by
      simp only [List.mem_cons, List.not_mem_nil, or_false] at hv
      rcases hv with e | e | e | e | e | e | e | e
      · exact ⟨_, e, small _ (by decide) (by decide)⟩
      · exact ⟨_, e, small _ (by decide) (by decide)⟩
      · exact ⟨_, e, small _ (by decide) (by decide)⟩
      · exact ⟨_, e, hw.app (sign " " rfl (by decide))⟩
      · exact ⟨_, e, ((sign " " rfl (by decide)).app hw).mono (by omega)⟩
      · exact ⟨_, e, hw.app (sign "0" rfl (by decide))⟩
      · exact ⟨_, e, ((sign "0" rfl (by decide)).app hw).mono (by omega)⟩
      · exact ⟨_, e, (hw.cut _ _).mono (by omega)⟩
    have all3 : ∀ v ∈ ([.str (repS "1" 5000), .str (x ++ "\t")] : List V), ∃ w' : Str, v = .str w' ∧ Wordy (b + 1) w' := fun v hv => by
      simp only [List.mem_cons, List.not_mem_nil, or_false] at hv
      rcases hv with e | e
      · exact ⟨_, e, wordy_ones.mono (by omega)⟩
      · exact ⟨_, e, hw.app (sign "\t" rfl (by decide))⟩
    refine ⟨by show 18 ≤ sizeLine; decide, fun l1 h1 => ?_⟩
    obtain ⟨A1, eA1⟩ : ∃ A1 : List V, [V.str "", .str "0", .str "1", .str "2", .str "3", .str "4", .str "5", .str "6", .str "7", .str "00", .str "01", .str "-1", .str "+1", .str "1_0", .str "x", .str "10", .str "house", .str "named"] = A1 := ⟨_, rfl⟩
    have lA1 : A1.length = 18 := by rw [← eA1]; rfl
    rw [eA1] at all1 ⊢
    have K1 : Keep p H (upd H l1 (.lst A1)) := Keep.new h1
    have D1 := D.put (o := .lst A1) h1
    have L1 : (upd H l1 (.lst A1)) l1 = some (.lst A1) := upd_same
    show gName 2 (V.ref l1) _ (upd H l1 (.lst A1)) _
    generalize upd H l1 (.lst A1) = J1 at K1 D1 L1 ⊢
    refine ⟨_, rfl, _, rfl, _, _, rfl, rfl, one1 " " rfl, _, rfl, _, _, rfl, rfl, one2 " " rfl, _, rfl, _, _, rfl, rfl, one1 "0" rfl, _, rfl, _, _, rfl, rfl, one2 "0" rfl, _, rfl, 1, rfl, x, rfl, xl1, by show 8 ≤ sizeLine; decide, fun l2 h2 => ?_⟩
    obtain ⟨A2, eA2⟩ : ∃ A2 : List V, [V.str "next", .str "wait", .str "Named", .str (x ++ " "), .str (" " ++ x), .str (x ++ "0"), .str ("0" ++ x), .str (cutS x (some 1) none)] = A2 := ⟨_, rfl⟩
    have lA2 : A2.length = 8 := by rw [← eA2]; rfl
    rw [eA2] at all2 ⊢
    have K2 := K1.trans (Keep.new (p := p) (o := .lst A2) h2)
    have D2 := D1.put (o := .lst A2) h2
    have L2a : (upd J1 l2 (.lst A2)) l2 = some (.lst A2) := upd_same
    have L2b : (upd J1 l2 (.lst A2)) l1 = some (.lst A1) := by rw [upd_ne (ne_of_none L1 h2)]; exact L1
    refine ⟨l1, l2, A1, A2, rfl, rfl, L2b, L2a, by rw [lA1, lA2]; decide, fun l3 h3 => ?_⟩
    have K3 := K2.trans (Keep.new (p := p) (o := .lst (A1 ++ A2)) h3)
    have D3 := D2.put (o := .lst (A1 ++ A2)) h3
    have L3 : (upd (upd J1 l2 (.lst A2)) l3 (.lst (A1 ++ A2))) l3 = some (.lst (A1 ++ A2)) := upd_same
    show gName 2 (V.ref l3) _ (upd (upd J1 l2 (.lst A2)) l3 (.lst (A1 ++ A2))) _
    generalize upd (upd J1 l2 (.lst A2)) l3 (.lst (A1 ++ A2)) = J3 at K3 D3 L3 ⊢
    refine ⟨_, rfl, "1", 5000, rfl, rfl, by decide, by decide, by decide, _, rfl, _, _, rfl, rfl, one1 "\t" rfl, by show 2 ≤ sizeLine; decide, fun l4 h4 => ?_⟩
    obtain ⟨A3, eA3⟩ : ∃ A3 : List V, [V.str (repS "1" 5000), .str (x ++ "\t")] = A3 := ⟨_, rfl⟩
    have lA3 : A3.length = 2 := by rw [← eA3]; rfl
    have eA3' : [V.str (repS "1" (5000 : Int).toNat), .str (x ++ "\t")] = A3 := eA3
    rw [eA3] at all3
    rw [eA3']
    have K4 := K3.trans (Keep.new (p := p) (o := .lst A3) h4)
    have D4 := D3.put (o := .lst A3) h4
    have L4a : (upd J3 l4 (.lst A3)) l4 = some (.lst A3) := upd_same
    have L4b : (upd J3 l4 (.lst A3)) l3 = some (.lst (A1 ++ A2)) := by rw [upd_ne (ne_of_none L3 h4)]; exact L3
    refine ⟨l3, l4, A1 ++ A2, A3, rfl, rfl, L4b, L4a, by rw [List.length_append, lA1, lA2, lA3]; decide, fun l5 h5 => ?_⟩
    have K5 := K4.trans (Keep.new (p := p) (o := .lst (A1 ++ A2 ++ A3)) h5)
    have D5 := D4.put (o := .lst (A1 ++ A2 ++ A3)) h5
    have L5 : (upd (upd J3 l4 (.lst A3)) l5 (.lst (A1 ++ A2 ++ A3))) l5 = some (.lst (A1 ++ A2 ++ A3)) := upd_same
    show gName 2 (V.ref l5) _ (upd (upd J3 l4 (.lst A3)) l5 (.lst (A1 ++ A2 ++ A3))) _
    have n5 := D4.ne_new h5
    generalize upd (upd J3 l4 (.lst A3)) l5 (.lst (A1 ++ A2 ++ A3)) = J5 at K5 D5 L5 ⊢
    have lA : (A1 ++ A2 ++ A3).length = 28 := by rw [List.length_append, List.length_append, lA1, lA2, lA3]
    refine ⟨_, rfl, _, rfl, p, l5, _, n, rfl, SqL.of L5, n5, by rw [lA]; decide, by rw [lA]; decide, D5, by omega, fun i v J hv DJ KJ => ?_⟩
    have mv := List.mem_of_getElem? hv
    obtain ⟨w', rfl, hw'⟩ : ∃ w' : Str, v = .str w' ∧ Wordy (b + 1) w' := by
      rcases List.mem_append.mp mv with m | m
      · rcases List.mem_append.mp m with m | m
        · exact all1 v m
        · exact all2 v m
      · exact all3 v m
    exact k w' J hw' DJ (K5.trans KJ)
end

/-! ### rows of words, bent -/
def Rowy (b m : Nat) (ws : List Str) : Prop := ws ≠ [] ∧ ws.length ≤ m ∧ ∀ w ∈ ws, Wordy b w
theorem Rowy.mono {b m b' m' : Nat} {ws : List Str} (h : Rowy b m ws) (l : b ≤ b') (l' : m ≤ m') : Rowy b' m' ws := ⟨h.1, Nat.le_trans h.2.1 l', fun w hw => (h.2.2 w hw).mono l⟩
def Rowsy (b m L : Nat) (ls : List (List Str)) : Prop := ls ≠ [] ∧ ls.length ≤ L ∧ ∀ ws ∈ ls, Rowy b m ws
theorem Keep.fresh {p q : Addr} {H J : Hp} (k : Keep p H J) (n : q ≠ p) (h : J q = none) : H q = none := by
  cases e : H q with
  | none => rfl
  | some o =>
    by_cases nt : ∃ r, o = .tbl r
    · obtain ⟨r, rfl⟩ := nt
      obtain ⟨r', e', _⟩ := k.t q r e
      rw [h] at e'
      cases e'
    · have := k.at n e (fun r z => nt ⟨r, z⟩)
      rw [h] at this
      cases this
/-- each of these is a list of words that was not there at G -/
def LinesIn (G : Hp) (p : Addr) (b m : Nat) (J : Hp) (us : List V) : Prop := ∀ v ∈ us, ∃ q ws, v = .ref q ∧ G q = none ∧ q ≠ p ∧ J q = some (.lst (ws.map V.str)) ∧ Rowy b m ws
theorem LinesIn.keep {G J L : Hp} {p : Addr} {b m : Nat} {us : List V} (h : LinesIn G p b m J us) (k : Keep p J L) : LinesIn G p b m L us := fun v hv => by
  obtain ⟨q, ws, e, hg, qp, hq, hr⟩ := h v hv
  exact ⟨q, ws, e, hg, qp, k.at qp hq, hr⟩
theorem LinesIn.put {G J : Hp} {p q : Addr} {b m b' m' : Nat} {us : List V} {ws : List Str} (h : LinesIn G p b m J us) (l : b ≤ b') (l' : m ≤ m') (hr : Rowy b' m' ws) : LinesIn G p b' m' (upd J q (.lst (ws.map V.str))) us := fun v hv => by
  obtain ⟨q', ws', e, hg, qp, hq, hr'⟩ := h v hv
  by_cases c : q' = q
  · subst c
    exact ⟨q', ws, e, hg, qp, upd_same, hr⟩
  · exact ⟨q', ws', e, hg, qp, by rw [upd_ne c]; exact hq, hr'.mono l l'⟩
theorem LinesIn.away {G J : Hp} {p q : Addr} {b m : Nat} {us : List V} {o : HO} (h : LinesIn G p b m J us) (n : ∀ v ∈ us, v ≠ .ref q) : LinesIn G p b m (upd J q o) us := fun v hv => by
  obtain ⟨q', ws', e, hg, qp, hq, hr'⟩ := h v hv
  exact ⟨q', ws', e, hg, qp, by rw [upd_ne (fun z => n v hv (by rw [e, z]))]; exact hq, hr'⟩
theorem LinesIn.mono {G J : Hp} {p : Addr} {b m b' m' : Nat} {us us' : List V} (h : LinesIn G p b m J us) (l : b ≤ b') (l' : m ≤ m') (s : ∀ v ∈ us', v ∈ us) : LinesIn G p b' m' J us' := fun v hv => by
  obtain ⟨q, ws, e, hg, qp, hq, hr⟩ := h v (s v hv)
  exact ⟨q, ws, e, hg, qp, hq, hr.mono l l'⟩
theorem LinesIn.paired {K : PySem.W.Frag} {G J : Hp} {p : Addr} {b m : Nat} : ∀ {us : List V}, LinesIn G p b m J us → ∃ ls, Paired (LineAt K (off p J)) us ls ∧ ls.length = us.length ∧ ∀ ws ∈ ls, Rowy b m ws
  | [], _ => ⟨[], .nil, rfl, fun ws h => absurd h List.not_mem_nil⟩
  | v :: us, h => by
    obtain ⟨ls, a, b1, c⟩ := LinesIn.paired (K := K) (us := us) fun x hx => h x (List.mem_cons_of_mem _ hx)
    obtain ⟨q, ws, rfl, _, qp, hq, hr⟩ := h v List.mem_cons_self
    refine ⟨ws :: ls, .cons ⟨q, rfl, SqL.of (off_at qp hq)⟩ a, by rw [List.length_cons, List.length_cons, b1], fun x hx => ?_⟩
    rcases List.mem_cons.mp hx with e | e
    · rw [e]; exact hr
    · exact c x e
def sp_bentr (K : PySem.W.Frag) : Sp := fun vs H Q _ => ∃ (p a : Addr) (xs : List V) (ls : List (List Str)) (b m L n : Nat), vs = [.ref p, .ref a] ∧ a ≠ p ∧ SqL K H a xs ∧ Paired (LineAt K (off p H)) xs ls ∧ Rowsy b m L ls ∧ 5000 ≤ b ∧ b ≤ 9000 ∧ m ≤ 50 ∧ L ≤ 50 ∧ Deck K H p n ∧ n < 600000 ∧
  ∀ (F : Addr) (us : List V) (ls' : List (List Str)) (J : Hp) (n' : Nat), F ≠ p → SqL K J F us → Paired (LineAt K (off p J)) us ls' → Rowsy (b + 1) (m + 1) (L + 6) ls' → n' ≤ n + 8 → Deck K J p n' → Keep p H J → Q (.ref F) J
section
variable {P : Program} {w : World} {K : PySem.W.Frag} {mg : Str → Option Value} {base : Heap}
theorem ok_bentr (T : Txt K mg) : FnOk P w K mg base CX0 4 T.a_bent_rows T.d_bent_rows ["_law_deck_here", "_law_rows"] (sp_bentr K) := by
  have G_draw : FnOk P w K mg base CX0 1 T.a_draw T.d_draw ["_law_deck_here", "_law_many"] (sp_draw K) := ok_draw T
  have G_one : FnOk P w K mg base CX0 2 T.a_one T.d_one ["_law_deck_here", "_law_items"] (sp_one K) := ok_one T
  have G_odd_word : FnOk P w K mg base CX0 3 T.a_odd_word T.d_odd_word ["_law_deck_here", "_law_word"] (sp_oddw K) := ok_oddw T
  refine T.F_bent_rows.ok sc_bent_rows (fun vs H Q E h => ?_) (fun cdv A outer s H vs Q E hr h => ?_)
  · obtain ⟨p, a, _, _, _, _, _, _, rfl, _⟩ := h
    rfl
  · obtain ⟨p, a, xs, ls, b, m, L, n, rfl, ap, ha, hls, hry, b5, b9, m50, L50, D, hn, k⟩ := h
    refine ⟨_, (pss_cons (ps_setLc (i := 2) (own := [("_law_row", 3)]) (g := gName 3) (by rfl) sc_bent_rows.nd rfl rfl (sw_true rfl rfl rfl (by decide +kernel)) (pi_list (pv 1)) (blkOk_by (own := [("_law_row", 3)]) (N := ["_law_deck_here", "_law_rows", "_law_found", "_law_row", "_law_at", "_law_spot", "_law_sort", "_law_odd", "_law_k"]) (sc := defScope s_bent_rows) (by decide +kernel)) (fun _ _ _ _ _ => (pg_name (i := 3) sc_bent_rows.nd rfl (Or.inl rfl))) (fun _ _ _ _ _ => pts_nil) (fun _ _ _ _ _ => (pe_callTy (T := "list") (listK K rfl) (by rfl) T.m_list (by decide +kernel) (pa_cons (pv 3) pa_nil))))
      (pss_cons (ps_set (i := 4) sc_bent_rows.nd rfl (Or.inl rfl) (pe_call G_draw (hr.mono (by omega)) (by rfl) T.g_draw T.F_draw.kp T.b_draw .nil pass0 (pa_cons (pv 0) (pa_cons (pe_callB (id := "len") call_len_seq (by rfl) T.m_len (by decide +kernel) (pa_cons (pv 2) pa_nil)) pa_nil))))
      (pss_cons (ps_set (i := 3) sc_bent_rows.nd rfl (Or.inr rfl) (pe_ix ix_list (pv 2) (pv 4) (fun _ _ => rfl)))
      (pss_cons (ps_par (i := 5) (j := 6) (by rfl) sc_bent_rows.nd rfl rfl (by decide) rfl rfl (pa_cons (pe_call G_draw (hr.mono (by omega)) (by rfl) T.g_draw T.F_draw.kp T.b_draw .nil pass0 (pa_cons (pv 0) (pa_cons (pe_callB (id := "len") call_len_seq (by rfl) T.m_len (by decide +kernel) (pa_cons (pv 3) pa_nil)) pa_nil))) (pa_cons (pe_call G_draw (hr.mono (by omega)) (by rfl) T.g_draw T.F_draw.kp T.b_draw .nil pass0 (pa_cons (pv 0) (pa_cons pe_int pa_nil))) pa_nil)) (by rfl))
      (pss_cons (ps_set (i := 7) sc_bent_rows.nd rfl (Or.inl rfl) (pe_call G_odd_word (hr.mono (by omega)) (by rfl) T.g_odd_word T.F_odd_word.kp T.b_odd_word .nil pass0 (pa_cons (pv 0) (pa_cons (pe_ix ix_list (pv 3) (pv 5) (fun _ _ => rfl)) pa_nil))))
      (pss_cons (ps_if (pt_cmpR op_lt (pv 6) pe_int (nomark _))
        (pss_one (ps_asg (pv 7) (pg_sub (pv 3) (pv 5) set_list)))
        (pss_one (ps_if (pt_cmpR op_eq (pv 6) pe_int (nomark _))
        (pss_one (ps_expr (pe_bm PySem.F.plainAttrs_list PySem.F.slot_list_insert PySem.F.type_list_insert mt_insert (pv 3) (pa_cons (pe_call G_one (hr.mono (by omega)) (by rfl) T.g_one T.F_one.kp T.b_one .nil pass0 (pa_cons (pv 0) (pa_cons (pe_lst (pa_cons (pv 5) (pa_cons (pe_callB (id := "len") call_len_seq (by rfl) T.m_len (by decide +kernel) (pa_cons (pv 3) pa_nil)) pa_nil))) pa_nil))) (pa_cons (pv 7) pa_nil)))))
        (pss_one (ps_if (pt_cut (PW.pt (pw_and (pt_cmpR op_eq (pv 6) pe_int (nomark _)) (pw_and1 (pt_cmpR op_gt (pe_callB (id := "len") call_len_seq (by rfl) T.m_len (by decide +kernel) (pa_cons (pv 3) pa_nil)) pe_int (nomark _))))))
        (pss_one (ps_expr (pe_bm PySem.F.plainAttrs_list PySem.F.slot_list_pop PySem.F.type_list_pop mt_popAt (pv 3) (pa_cons (pv 5) pa_nil))))
        (pss_one (ps_if (pt_cut (PW.pt (pw_and (pt_cmpR op_eq (pv 6) pe_int (nomark _)) (pw_and1 (pt_cmpR op_gt (pv 5) pe_int (nomark _))))))
        (pss_one (ps_asg (pe_tup (pa_cons (pe_ix ix_list (pv 3) (pe_op op_sub (pv 5) pe_int) (fun _ _ => rfl)) (pa_cons (pe_ix ix_list (pv 3) (pv 5) (fun _ _ => rfl)) pa_nil))) (pg_tup (by rfl) (pgs_cons (pg_sub (pv 3) (pv 5) set_list) (pgs_cons (pg_sub (pv 3) (pe_op op_sub (pv 5) pe_int) set_list) pgs_nil)))))
        (pss_one (ps_if (pt_cut (PW.pt (pw_and (pt_cmpR op_eq (pv 6) pe_int (nomark _)) (pw_and1 (pt_cmpR op_gt (pe_callB (id := "len") call_len_seq (by rfl) T.m_len (by decide +kernel) (pa_cons (pv 2) pa_nil)) pe_int (nomark _))))))
        (pss_one (ps_expr (pe_bm PySem.F.plainAttrs_list PySem.F.slot_list_pop PySem.F.type_list_pop mt_popAt (pv 2) (pa_cons (pv 4) pa_nil))))
        (pss_one (ps_set (i := 2) sc_bent_rows.nd rfl (Or.inl rfl) (pe_op op_cat (pe_op op_cat (pe_slice sl_list (pv 2) po_none (po_some (pv 4))) (pe_lc (own := [("_law_k", 8)]) (g := gName 8) (by rfl) sc_bent_rows.nd (pi_range1 (by rfl) T.m_range (pa_cons (pe_op op_add pe_int (pe_call G_draw (hr.mono (by omega)) (by rfl) T.g_draw T.F_draw.kp T.b_draw .nil pass0 (pa_cons (pv 0) (pa_cons pe_int pa_nil)))) pa_nil)) (blkOk_by (own := [("_law_k", 8)]) (N := ["_law_deck_here", "_law_rows", "_law_found", "_law_row", "_law_at", "_law_spot", "_law_sort", "_law_odd", "_law_k"]) (sc := defScope s_bent_rows) (by decide +kernel)) (fun _ _ _ _ _ => (pg_name (i := 8) sc_bent_rows.nd rfl (Or.inl rfl))) (fun _ _ _ _ _ => pts_nil) (fun _ _ _ _ _ => (pe_callTy (T := "list") (listK K rfl) (by rfl) T.m_list (by decide +kernel) (pa_cons (pv 3) pa_nil))))) (pe_slice sl_list (pv 2) (po_some (pv 4)) po_none)))))))))))))
      (pss_one (ps_ret (pv 2))))))))), ?_⟩
    have fin : ∀ (J : Hp) (F : Addr) (us : List V) (n' : Nat), F ≠ p → J F = some (.lst us) → LinesIn H p (b + 1) (m + 1) J us → us ≠ [] → us.length ≤ L + 6 → n' ≤ n + 8 → Deck K J p n' → Keep p H J → Q (.ref F) J := by
      intro J F us n' Fp hF hl ne lu hn' DJ KJ
      obtain ⟨ls', a1, a2, a3⟩ := hl.paired (K := K)
      refine k F us ls' J n' Fp (SqL.of hF) a1 ⟨fun z => ne ?_, by omega, a3⟩ hn' DJ KJ
      rw [z] at a2
      exact List.eq_nil_of_length_eq_zero a2.symm
    have lx := paired_len hls
    have l1 : 0 < ls.length := List.length_pos_iff.mpr hry.1
    refine ⟨_, rfl, a, rfl, ⟨_, ha⟩, fun F hF => ?_⟩
    have Fp := D.ne_new hF
    refine lc_list (K := K) (a := a) (xs := xs) (fun i J => ∃ us : List V, Same H J ∧ J F = some (.lst us) ∧ us.length = i ∧ LinesIn H p b m J us ∧ ∀ v ∈ us, v ≠ .ref F) ⟨[], same_new hF, upd_same, rfl, fun v hv => absurd hv List.not_mem_nil, fun v hv => absurd hv List.not_mem_nil⟩ (fun i J _ ⟨_, S, _⟩ => sameL S ha) ?_ ?_
    · rintro i x J hi ⟨us, S, hJ, lu, hl, hne⟩
      obtain ⟨ws, e1, q, rfl, sq⟩ := paired_at hls hi
      have hw := hry.2.2 ws (List.mem_of_getElem? e1)
      refine ⟨rfl, ?_⟩
      unfold tYes
      refine iteT ⟨_, rfl, q, _, rfl, .inl (sameL (off_in.trans S) sq), fun l hl' => ?_⟩
      have nF : F ≠ l := ne_of_none hJ hl'
      have Hl : H l = none := by
        cases e : H l with
        | none => rfl
        | some o => have := S _ _ e; rw [hl'] at this; cases this
      have lp := (D.of_grow (Grow.of_same S)).ne_new hl'
      have K0 : Keep p J (upd J l (.lst (ws.map V.str))) := Keep.new hl'
      have hil : i < xs.length := (List.getElem?_eq_some_iff.mp hi).1
      have lL := hry.2.1
      refine ⟨us, by rw [upd_ne nF]; exact hJ, Nat.lt_of_lt_of_le (by omega : us.length < 100) (by decide), us ++ [.ref l], write_sameW (S.trans (same_new hl')) hF, upd_same, by rw [List.length_append, List.length_singleton, lu], ?_, ?_⟩
      · have h1 := (hl.keep K0).away (o := .lst (us ++ [.ref l])) hne
        intro v hv
        rcases List.mem_append.mp hv with e | e
        · exact h1 v e
        · rw [List.mem_singleton.mp e]
          exact ⟨l, ws, rfl, Hl, lp, by rw [upd_ne nF.symm]; exact upd_same, hw⟩
      · intro v hv
        rcases List.mem_append.mp hv with e | e
        · exact hne v e
        · rw [List.mem_singleton.mp e]
          exact fun z => nF (V.ref.inj z).symm
    · rintro J1 ⟨us, S, hJ, lu, hl, hne⟩
      have lu' : us.length = ls.length := lu.trans lx
      have lL := hry.2.1
      have D1 := D.of_grow (Grow.of_same S)
      have K1 : Keep p H J1 := Keep.of_same S
      refine ⟨_, rfl, _, rfl, F, us, rfl, .inl (SqL.of hJ), p, _, n, rfl, by omega, by omega, D1, by omega, fun r J2 r0 r1 D2 K2 => ?_⟩
      obtain ⟨j, rfl⟩ : ∃ j : Nat, r = (j : Int) := ⟨r.toNat, (Int.toNat_of_nonneg r0).symm⟩
      have hj : j < us.length := by omega
      have hF2 := K2.at Fp hJ
      have hx : us[j]? = some us[j] := List.getElem?_eq_getElem hj
      obtain ⟨q, ws, eq, hg, qp, hq, hw⟩ := (hl.keep K2) _ (List.getElem_mem hj)
      rw [eq] at hx
      refine ⟨_, rfl, _, rfl, F, us, (j : Int), _, rfl, rfl, SqL.of hF2, atI_nat hx, ?_⟩
      have lw1 : 0 < ws.length := List.length_pos_iff.mpr hw.1
      have lw2 := hw.2.1
      have lm : (ws.map V.str).length = ws.length := List.length_map _
      refine ⟨_, rfl, _, rfl, q, _, rfl, .inl (SqL.of hq), p, _, n + 1, rfl, by rw [lm]; omega, by rw [lm]; omega, D2, by omega, fun sp J3 s0 s1 D3 K3 => ?_⟩
      rw [lm] at s1
      obtain ⟨u, rfl⟩ : ∃ j : Nat, sp = (j : Int) := ⟨sp.toNat, (Int.toNat_of_nonneg s0).symm⟩
      have hu : u < ws.length := by omega
      refine ⟨_, rfl, p, 9, n + 2, rfl, by decide, by decide, D3, by omega, fun st J4 t0 t1 D4 K4 => ⟨_, _, rfl, ?_⟩⟩
      have hq4 := (K3.trans K4).at qp hq
      have hwu : (ws.map V.str)[u]? = some (.str ws[u]) := by rw [List.getElem?_map, List.getElem?_eq_getElem hu]; rfl
      refine ⟨_, rfl, _, rfl, _, rfl, q, _, (u : Int), _, rfl, rfl, SqL.of hq4, atI_nat hwu, p, ws[u], b, n + 3, rfl, hw.2.2 _ (List.getElem_mem hu), b5, b9, D4, by omega, fun w' J5 hw' D5 K5 => ?_⟩
      have K15 : Keep p J1 J5 := ((K2.trans K3).trans K4).trans K5
      have KH5 := K1.trans K15
      have hl5 := hl.keep K15
      have hF5 := K15.at Fp hJ
      have hq5 := K5.at qp hq4
      have Fq : F ≠ q := fun z => hne _ (List.getElem_mem hj) (by rw [eq, z])
      have une : us ≠ [] := fun z => by rw [z] at hj; exact absurd hj (Nat.not_lt_zero _)
      have chg : ∀ (ws' : List Str) (J' : Hp) (n' : Nat), Rowy (b + 1) (m + 1) ws' → n' ≤ n + 8 → Deck K J' p n' → Keep p J5 J' → Q (.ref F) (upd J' q (.lst (ws'.map V.str))) := fun ws' J' n' hr hn' DJ KJ =>
        fin (upd J' q (.lst (ws'.map V.str))) F us n' Fp (by rw [upd_ne Fq]; exact KJ.at Fp hF5) ((hl5.keep KJ).put (by omega) (by omega) hr) une (by omega) hn' (Deck.write D hg (KH5.trans KJ) DJ) ((KH5.trans KJ).write hg qp)
      have hw1 : ∀ w ∈ ws, Wordy (b + 1) w := fun w hw' => (hw.2.2 w hw').mono (by omega)
      have ixu : ixN (ws.map V.str).length (u : Int) = some u := by
        rw [lm]
        exact Evl.ixN_nat hu
      have setm : ∀ (i : Nat) (y : Str) (zs : List Str), (zs.map V.str).set i (.str y) = (zs.set i y).map V.str := fun i y zs => by rw [List.map_set]
      refine ⟨_, rfl, _, _, rfl, rfl, _, rfl, ?_⟩
      by_cases c4 : st < 4
      · rw [decide_eq_true c4]
        refine iteT ⟨_, rfl, _, rfl, _, rfl, q, _, (u : Int), u, rfl, rfl, hq5, ixu, ?_⟩
        rw [setm]
        refine ⟨_, rfl, chg _ J5 (n + 4) ⟨?_, by rw [List.length_set]; omega, fun w hws => ?_⟩ (by omega) D5 (Keep.refl _ _)⟩
        · exact fun z => hw.1 (by have := congrArg List.length z; rw [List.length_set] at this; exact List.eq_nil_of_length_eq_zero this)
        · rcases List.mem_or_eq_of_mem_set hws with e | e
          · exact hw1 w e
          · rw [e]; assumption
      rw [decide_eq_false c4]
      refine iteF ⟨_, rfl, rfl, _, rfl, ?_⟩
      by_cases e4 : st = 4
      · rw [decide_eq_true (show V.int st = V.int 4 by rw [e4])]
        refine iteT ⟨_, rfl, .inl ⟨rfl, _, SqL.of hq5⟩, _, rfl, _, rfl, _, rfl, q, _, rfl, .inl (SqL.of hq5), by show 2 ≤ sizeLine; decide, fun l hl' => ?_⟩
        refine ⟨p, l, _, n + 4, rfl, SqL.of upd_same, D5.ne_new hl', by show 0 < 2; decide, by show 2 < 100000; decide, D5.put hl', by omega, fun i v J6 hv D6 K6 => ?_⟩
        obtain ⟨i', rfl, il⟩ : ∃ i' : Nat, v = .int (i' : Int) ∧ i' ≤ ws.length := by
          have mm := List.mem_of_getElem? hv
          simp only [List.mem_cons, List.not_mem_nil, or_false] at mm
          rcases mm with e | e
          · exact ⟨u, e, by omega⟩
          · exact ⟨ws.length, by rw [e, lm], Nat.le_refl _⟩
        have K56 : Keep p J5 J6 := (Keep.new hl').trans K6
        refine ⟨_, rfl, q, _, (i' : Int), _, rfl, rfl, K56.at qp hq5, Nat.lt_of_lt_of_le (by rw [lm]; omega : _ < 100) (by decide), by omega, by omega, ?_⟩
        have insm : (ws.map V.str).take (i' : Int).toNat ++ [.str w'] ++ (ws.map V.str).drop (i' : Int).toNat = (ws.take i' ++ [w'] ++ ws.drop i').map V.str := by
          rw [List.map_append, List.map_append, List.map_take, List.map_drop]
          rfl
        rw [insm]
        refine ⟨_, rfl, chg _ J6 (n + 5) ⟨by simp, ?_, fun w hws => ?_⟩ (by omega) D6 K56⟩
        · rw [List.length_append, List.length_append, List.length_take, List.length_drop, List.length_singleton]
          omega
        · rcases List.mem_append.mp hws with e | e
          · rcases List.mem_append.mp e with e | e
            · exact hw1 w (List.mem_of_mem_take e)
            · rw [List.mem_singleton.mp e]; assumption
          · exact hw1 w (List.mem_of_mem_drop e)
      rw [decide_eq_false (show ¬ V.int st = V.int 4 from fun z => e4 (V.int.inj z))]
      refine iteF ?_
      -- a word is left out
      refine ⟨fun c J => J = J5 ∧ (c = true → 1 < ws.length), ?_, ?_⟩
      · refine ⟨_, rfl, rfl, _, rfl, ite2 (fun _ => ?_) (fun _ => ⟨rfl, fun z => nomatch z⟩)⟩
        refine ⟨_, rfl, q, _, rfl, .inl (SqL.of hq5), _, _, rfl, rfl, _, rfl, rfl, fun z => ?_⟩
        have := of_decide_eq_true z
        rw [lm] at this
        omega
      rintro c J ⟨rfl, hc⟩
      cases c with
      | true =>
        have c1 := hc rfl
        refine iteT ⟨_, rfl, .inl ⟨rfl, _, SqL.of hq5⟩, _, rfl, q, _, (u : Int), u, _, rfl, rfl, hq5, by omega, by omega, (ixN_seq ixu).1, hwu, ?_⟩
        have erm : (ws.map V.str).eraseIdx u = (ws.eraseIdx u).map V.str := by rw [List.eraseIdx_eq_take_drop_succ, List.eraseIdx_eq_take_drop_succ, List.map_append, List.map_take, List.map_drop]
        rw [erm]
        have le : (ws.eraseIdx u).length = ws.length - 1 := List.length_eraseIdx_of_lt hu
        refine ⟨_, rfl, chg _ J (n + 4) ⟨fun z => ?_, by omega, fun w hws => hw1 w (List.mem_of_mem_eraseIdx hws)⟩ (by omega) D5 (Keep.refl _ _)⟩
        rw [z] at le
        have : 0 = ws.length - 1 := le
        omega
      | false =>
      refine iteF ?_
      -- two words are exchanged
      refine ⟨fun c J' => J' = J ∧ (c = true → 0 < u), ?_, ?_⟩
      · refine ⟨_, rfl, rfl, _, rfl, ite2 (fun _ => ?_) (fun _ => ⟨rfl, fun z => nomatch z⟩)⟩
        refine ⟨_, rfl, _, _, rfl, rfl, _, rfl, rfl, fun z => ?_⟩
        have := of_decide_eq_true z
        omega
      rintro c J' ⟨rfl, hc⟩
      cases c with
      | true =>
        have c1 := hc rfl
        refine iteT ?_
        have hwu1 : (ws.map V.str)[u - 1]? = some (.str ws[u - 1]) := by rw [List.getElem?_map, List.getElem?_eq_getElem (by omega)]; rfl
        have eu1 : ((u : Int) - 1) = ((u - 1 : Nat) : Int) := by omega
        refine ⟨_, rfl, _, rfl, _, _, rfl, rfl, q, _, (u : Int) - 1, _, rfl, rfl, SqL.of hq5, by rw [eu1]; exact atI_nat hwu1, ?_⟩
        refine ⟨_, rfl, _, rfl, q, _, (u : Int), _, rfl, rfl, SqL.of hq5, atI_nat hwu, by show 2 ≤ sizeLine; decide, fun tt gt => ?_⟩
        have uu : ∀ (G : Hp) (o1 o2 : HO), upd (upd G q o1) q o2 = upd G q o2 := fun G o1 o2 => funext fun b => by
          by_cases c : b = q
          · rw [c, upd_same, upd_same]
          · rw [upd_ne c, upd_ne c, upd_ne c]
        have qt : q ≠ tt := ne_of_none hq5 gt
        have ixu1 : ixN (ws.map V.str).length ((u : Int) - 1) = some (u - 1) := by
          rw [eu1, lm]
          exact Evl.ixN_nat (by omega)
        have K6 : Keep p J' (upd J' tt (.tup [V.str ws[u - 1], V.str ws[u]])) := Keep.new gt
        have D6 := D5.put (o := .tup [V.str ws[u - 1], V.str ws[u]]) gt
        have T6 : (upd J' tt (.tup [V.str ws[u - 1], V.str ws[u]])) tt = some (.tup [V.str ws[u - 1], V.str ws[u]]) := upd_same
        have Q6 : (upd J' tt (.tup [V.str ws[u - 1], V.str ws[u]])) q = some (.lst (ws.map V.str)) := by rw [upd_ne qt]; exact hq5
        show gTup _ _ _ _ _ (upd J' tt (.tup [V.str ws[u - 1], V.str ws[u]])) _
        generalize upd J' tt (.tup [V.str ws[u - 1], V.str ws[u]]) = J6 at K6 D6 T6 Q6 ⊢
        have lmm : ((ws.map V.str).set u (.str ws[u - 1])).length = (ws.map V.str).length := List.length_set
        refine ⟨tt, _, rfl, SqT.of T6, rfl, _, _, rfl, ?_⟩
        refine ⟨_, rfl, _, rfl, q, _, (u : Int), u, rfl, rfl, Q6, ixu, ?_⟩
        refine ⟨_, _, rfl, _, rfl, _, rfl, _, _, rfl, rfl, q, _, (u : Int) - 1, u - 1, rfl, rfl, upd_same, by rw [lmm]; exact ixu1, rfl, ?_⟩
        rw [uu, setm, setm]
        refine ⟨_, rfl, chg _ J6 (n + 4) ⟨fun z => ?_, by rw [List.length_set, List.length_set]; omega, fun w hws => ?_⟩ (by omega) D6 K6⟩
        · have := congrArg List.length z
          rw [List.length_set, List.length_set, List.length_nil] at this
          omega
        · rcases List.mem_or_eq_of_mem_set hws with e | e
          · rcases List.mem_or_eq_of_mem_set e with e | e
            · exact hw1 w e
            · rw [e]; exact hw1 _ (List.getElem_mem _)
          · rw [e]; exact hw1 _ (List.getElem_mem _)
      | false =>
      refine iteF ?_
      -- a row is left out
      refine ⟨fun c J => J = J' ∧ (c = true → 1 < us.length), ?_, ?_⟩
      · refine ⟨_, rfl, rfl, _, rfl, ite2 (fun _ => ?_) (fun _ => ⟨rfl, fun z => nomatch z⟩)⟩
        refine ⟨_, rfl, F, _, rfl, .inl (SqL.of hF5), _, _, rfl, rfl, _, rfl, rfl, fun z => ?_⟩
        have := of_decide_eq_true z
        omega
      rintro c J ⟨rfl, hc⟩
      have ixj : ixN us.length (j : Int) = some j := Evl.ixN_nat hj
      cases c with
      | true =>
        have c1 := hc rfl
        refine iteT ⟨_, rfl, .inl ⟨rfl, _, SqL.of hF5⟩, _, rfl, F, _, (j : Int), j, _, rfl, rfl, hF5, by omega, by omega, (ixN_seq ixj).1, hx, ?_⟩
        have le : (us.eraseIdx j).length = us.length - 1 := List.length_eraseIdx_of_lt hj
        refine ⟨_, rfl, fin _ F (us.eraseIdx j) (n + 4) Fp upd_same ?_ (fun z => ?_) (by omega) (by omega) (Deck.write D hF KH5 D5) (KH5.write hF Fp)⟩
        · exact (hl5.away hne).mono (by omega) (by omega) fun v hv => List.mem_of_mem_eraseIdx hv
        · rw [z] at le
          have : 0 = us.length - 1 := le
          omega
      | false =>
      refine iteF ?_
      -- a row is told more than once
      refine ⟨_, rfl, _, rfl, (j : Int), rfl, F, us, rfl, SqL.of hF5, fun c1 hc1 => ?_⟩
      obtain ⟨A1, eA1⟩ : ∃ A1, cutV us none (some (j : Int)) = A1 := ⟨_, rfl⟩
      obtain ⟨A2, eA2⟩ : ∃ A2, cutV us (some (j : Int)) none = A2 := ⟨_, rfl⟩
      have sj : HT.sIx us.length us.length (some (j : Int)) = j := by rw [HT.sIx_nat]; omega
      have sj0 : HT.sIx us.length 0 (some (j : Int)) = j := by rw [HT.sIx_nat]; omega
      have m1 : ∀ v ∈ A1, v ∈ us := fun v hv => by
        rw [← eA1] at hv
        unfold cutV at hv
        exact List.mem_of_mem_drop (List.mem_of_mem_take hv)
      have m2 : ∀ v ∈ A2, v ∈ us := fun v hv => by
        rw [← eA2] at hv
        unfold cutV at hv
        exact List.mem_of_mem_drop (List.mem_of_mem_take hv)
      have n1 : A1.length ≤ j := by
        rw [← eA1]
        unfold cutV
        rw [HT.sIx_none, sj, List.length_take]
        omega
      have n2 : A2.length = us.length - j := by
        rw [← eA2]
        unfold cutV
        rw [HT.sIx_none, sj0, List.length_take, List.length_drop]
        omega
      rw [eA1]
      have K6 : Keep p J (upd J c1 (.lst A1)) := Keep.new hc1
      have D6 := D5.put (o := .lst A1) hc1
      have C6 : (upd J c1 (.lst A1)) c1 = some (.lst A1) := upd_same
      have c1p := D5.ne_new hc1
      show (tLc _ _ _ _ _ : TE) _ (upd J c1 (.lst A1)) _
      generalize upd J c1 (.lst A1) = J6 at K6 D6 C6 ⊢
      refine ⟨_, rfl, p, 6, n + 4, rfl, by decide, by decide, D6, by omega, fun r6 J7 a0 a1 D7 K7 => ?_⟩
      refine ⟨_, _, rfl, rfl, _, rfl, by omega, by omega, fun F2 hF2 => ?_⟩
      have F2p := D7.ne_new hF2
      have K57 := K6.trans K7
      have hq7 := K57.at qp hq5
      have C7 := K7.at c1p C6
      have F27 := K57.at Fp hF5
      refine lc_range (lo := 0) (n := (1 + r6).toNat) (fun i J' => ∃ vs : List V, J' F2 = some (.lst vs) ∧ vs.length = i ∧ (∀ v ∈ vs, v ≠ .ref F2) ∧ LinesIn H p b m J' vs ∧ Deck K J' p (n + 5) ∧ Same J7 J') ⟨[], upd_same, rfl, fun v hv => absurd hv List.not_mem_nil, fun v hv => absurd hv List.not_mem_nil, D7.put hF2, same_new hF2⟩ ?_ ?_
      · rintro i J' hi ⟨vs, hV, lv, nv, lines, DJ', SJ'⟩
        refine ⟨rfl, ?_⟩
        unfold tYes
        refine iteT ⟨_, rfl, q, _, rfl, .inl (SqL.of (SJ' _ _ hq7)), fun l hl' => ?_⟩
        have nF2 : F2 ≠ l := ne_of_none hV hl'
        have Jl : J7 l = none := by
          cases e : J7 l with
          | none => rfl
          | some o => have := SJ' _ _ e; rw [hl'] at this; cases this
        have lp := DJ'.ne_new hl'
        have Hl : H l = none := ((KH5.trans K57).trans (Keep.of_same SJ')).fresh lp hl'
        refine ⟨vs, by rw [upd_ne nF2]; exact hV, Nat.lt_of_lt_of_le (by omega : vs.length < 100) (by decide), vs ++ [.ref l], upd_same, by rw [List.length_append, List.length_singleton, lv], ?_, ?_, ?_, ?_⟩
        · intro v hv
          rcases List.mem_append.mp hv with e | e
          · exact nv v e
          · rw [List.mem_singleton.mp e]
            exact fun z => nF2 (V.ref.inj z).symm
        · have h1 := (lines.keep (Keep.new (o := .lst (ws.map V.str)) hl')).away (o := .lst (vs ++ [.ref l])) nv
          intro v hv
          rcases List.mem_append.mp hv with e | e
          · exact h1 v e
          · rw [List.mem_singleton.mp e]
            exact ⟨l, ws, rfl, Hl, lp, by rw [upd_ne nF2.symm]; exact upd_same, hw⟩
        · exact Deck.write D7 hF2 (Keep.of_same (SJ'.trans (same_new hl'))) (DJ'.put hl')
        · exact write_sameW (SJ'.trans (same_new hl')) hF2
      · rintro J8 ⟨vs, hV, lv, nv, lines, D8, S8⟩
        have K58 := K57.trans (Keep.of_same (p := p) S8)
        refine ⟨c1, F2, A1, vs, rfl, rfl, S8 _ _ C7, hV, Nat.le_trans (by omega : A1.length + vs.length ≤ 200) (by decide), fun l3 hl3 => ?_⟩
        have K9 := K58.trans (Keep.new (p := p) (o := .lst (A1 ++ vs)) hl3)
        have D9 := D8.put (o := .lst (A1 ++ vs)) hl3
        have l9 := lines.keep (Keep.new (p := p) (o := .lst (A1 ++ vs)) hl3)
        have C9 : (upd J8 l3 (.lst (A1 ++ vs))) l3 = some (.lst (A1 ++ vs)) := upd_same
        show (tSl _ _ _ _ : TE) _ (upd J8 l3 (.lst (A1 ++ vs))) _
        generalize upd J8 l3 (.lst (A1 ++ vs)) = J9 at K9 D9 l9 C9 ⊢
        refine ⟨_, rfl, _, rfl, (j : Int), rfl, F, us, rfl, SqL.of (K9.at Fp hF5), fun c4 hc4 => ?_⟩
        rw [eA2]
        have n34 : l3 ≠ c4 := ne_of_none C9 hc4
        have K10 := K9.trans (Keep.new (p := p) (o := .lst A2) hc4)
        have D10 := D9.put (o := .lst A2) hc4
        have l10 := l9.keep (Keep.new (p := p) (o := .lst A2) hc4)
        refine ⟨l3, c4, A1 ++ vs, A2, rfl, rfl, by rw [upd_ne n34]; exact C9, upd_same, Nat.le_trans (by rw [List.length_append]; omega : _ ≤ 300) (by decide), fun l5 hl5' => ?_⟩
        have K11 := K10.trans (Keep.new (p := p) (o := .lst (A1 ++ vs ++ A2)) hl5')
        have D11 := D10.put (o := .lst (A1 ++ vs ++ A2)) hl5'
        have l11 := l10.keep (Keep.new (p := p) (o := .lst (A1 ++ vs ++ A2)) hl5')
        refine ⟨_, rfl, fin _ l5 (A1 ++ vs ++ A2) (n + 5) (D10.ne_new hl5') upd_same ?_ (fun z => ?_) ?_ (by omega) D11 (KH5.trans K11)⟩
        · intro v hv
          rcases List.mem_append.mp hv with e | e
          · rcases List.mem_append.mp e with e | e
            · exact ((hl5.keep K11).mono (by omega) (by omega) m1) v e
            · exact (l11.mono (b' := b + 1) (m' := m + 1) (by omega) (by omega) fun v hv => hv) v e
          · exact ((hl5.keep K11).mono (by omega) (by omega) m2) v e
        · have := congrArg List.length z
          rw [List.length_append, List.length_nil] at this
          omega
        · rw [List.length_append, List.length_append]
          omega
end

/-! ### texts of rows that are bent -/
theorem rowy_sum {b m : Nat} {ws : List Str} (h : Rowy b m ws) : (ws.map (·.length)).sum ≤ m * b := Nat.le_trans (sum_le (f := fun w : Str => w.length) fun w hw => (h.2.2 w hw).1) (Nat.mul_le_mul_right _ h.2.1)
theorem rowy_line {b m : Nat} {ws : List Str} (h : Rowy b m ws) : (lineT ws).length ≤ m * b + m + 1 := by
  have a := rowy_sum h
  have c := join_len " " ws
  have e : (" " : Str).length = 1 := rfl
  have e2 : ("\n" : Str).length = 1 := rfl
  have d := h.2.1
  rw [e, Nat.mul_one] at c
  unfold lineT
  rw [len_append, e2]
  omega
theorem rowsy_text {b m L : Nat} {ls : List (List Str)} (h : Rowsy b m L ls) : (textT ls).length ≤ L * (m * b + m + 1) := by
  have c := join_len "" (ls.map lineT)
  have e0 : ("" : Str).length = 0 := rfl
  rw [e0, Nat.mul_zero, Nat.add_zero, List.map_map] at c
  refine Nat.le_trans c (Nat.le_trans (sum_le (f := fun ws => (lineT ws).length) (b := m * b + m + 1) fun ws hw => rowy_line (h.2.2 ws hw)) (Nat.mul_le_mul_right _ h.2.1))
theorem rowsy_split {b m L : Nat} {ls : List (List Str)} (h : Rowsy b m L ls) : (Txt.split (textT ls) "\n").length = ls.length + 1 := by
  rw [text_ended, TL.split_join (y := "\n") (s := 10) (S := []) (parts := ls.map (Txt.join " ") ++ [("" : Str)]) (by decide) (by decide +kernel) (by simp) ?_]
  · rw [List.length_append, List.length_map, List.length_singleton]
  · intro p hp
    rcases List.mem_append.mp hp with hp | hp
    · obtain ⟨ws, hw, rfl⟩ := List.mem_map.mp hp
      rw [TL.join_eq, TL.tl_join]
      refine joinL_free (by decide) fun p hp => ?_
      obtain ⟨w, hw', rfl⟩ := List.mem_map.mp hp
      exact ((h.2.2 ws hw).2.2 w hw').2
    · rw [List.mem_singleton.mp hp]
      decide
theorem rowy_mild {b m : Nat} {ws : List Str} (h : Rowy b m ws) (hb : b ≤ 9000) (hm : m ≤ 10) : Mild ws := by
  have a := rowy_sum h
  have c := h.2.1
  have d : m * b ≤ 10 * 9000 := Nat.mul_le_mul hm hb
  exact ⟨by omega, by omega⟩
theorem rowy_short {ws : List Str} {m : Nat} (h : Short ws) (c : Clean ws) (l : ws.length ≤ m) : Rowy 5000 m ws := ⟨c.1, l, fun w hw => ⟨Nat.le_trans (h.2 w hw) (by decide), (c.2 w hw).2⟩⟩
section
variable {P : Program} {w : World} {K : PySem.W.Frag} {mg : Str → Option Value} {base : Heap}
theorem law_does {f : Addr} (T : Txt K mg) (TB : ∀ p ∈ T.tabs, GxR.TabB base mg p.1 p.2) : LawDoesT P w K mg base s_law ["_law_script", "_law_deck_here", "_law_turn", "_law_rows", "_law_k", "_law_bent", "_law_more", "_law_text_here"] f T.tabs := by
  intro cdv s H a ns h63 hTt hS
  have mB1 : (T.c_house_of, T.p_house_of) ∈ T.tabs := by simp [Txt.tabs]
  have TB1 : GxR.TabB base mg T.c_house_of T.p_house_of := TB _ mB1
  have hT0 : GxR.TabG H T.p_house_of := ⟨#[], hTt _ mB1, by trivial⟩
  have hr := room_law (envOfC "law" (defScope s_law) s.heap.objs.size f cdv)
  have G_deck : FnOk P w K mg base CX0 1 T.a_deck T.d_deck ["_law_script"] (sp_deck K) := ok_deck T
  have G_draw : FnOk P w K mg base CX0 1 T.a_draw T.d_draw ["_law_deck_here", "_law_many"] (sp_draw K) := ok_draw T
  have G_any : FnOk P w K mg base CX0 4 T.a_any T.d_any ["_law_deck_here"] (sp_any K) := ok_any T
  have G_words : FnOk P w K mg base CX0 2 T.a_words T.d_words ["_law_pair"] (sp_lwordsX K) := ok_lwordsX T
  have G_text : FnOk P w K mg base CX0 2 T.a_text T.d_text ["_law_rows"] (sp_ltext K) := ok_ltext T
  have G_bent_rows : FnOk P w K mg base CX0 4 T.a_bent_rows T.d_bent_rows ["_law_deck_here", "_law_rows"] (sp_bentr K) := ok_bentr T
  have G_told_of : FnOk P w K mg base CX0 8 T.a_told_of T.d_told_of ["_law_text_here"] (sp_told K T.p_house_of) := ok_told T TB1
  have G_read_text : FnOk P w K mg base CX0 5 T.a_read_text T.d_read_text ["_law_text_here"] (sp_lreadt K) := ok_lreadt T
  refine ⟨_, (pss_cons (ps_set (i := 1) sc_law.nd rfl (Or.inl rfl) (pe_call G_deck (hr.mono (by omega)) (by rfl) T.g_deck T.F_deck.kp T.b_deck .nil pass0 (pa_cons (pv 0) pa_nil)))
      (pss_cons (ps_for PassesOwn.never rfl (pi_range1 (by rfl) T.m_range (pa_cons pe_int pa_nil)) (pg_name (i := 2) sc_law.nd rfl (Or.inl rfl))
        (pss_cons (ps_set (i := 3) sc_law.nd rfl (Or.inl rfl) (pe_call G_words (hr.mono (by omega)) (by rfl) T.g_words T.F_words.kp T.b_words .nil pass0 (pa_cons (pe_call G_any (hr.mono (by omega)) (by rfl) T.g_any T.F_any.kp T.b_any .nil pass0 (pa_cons (pv 1) pa_nil)) pa_nil)))
      (pss_one (ps_for PassesOwn.never rfl (pi_range1 (by rfl) T.m_range (pa_cons pe_int pa_nil)) (pg_name (i := 4) sc_law.nd rfl (Or.inl rfl))
        (pss_cons (ps_set (i := 5) sc_law.nd rfl (Or.inl rfl) (pv 3))
      (pss_cons (ps_for PassesOwn.never rfl (pi_range1 (by rfl) T.m_range (pa_cons (pe_op op_add pe_int (pe_call G_draw (hr.mono (by omega)) (by rfl) T.g_draw T.F_draw.kp T.b_draw .nil pass0 (pa_cons (pv 1) (pa_cons pe_int pa_nil)))) pa_nil)) (pg_name (i := 6) sc_law.nd rfl (Or.inl rfl))
        (pss_one (ps_set (i := 5) sc_law.nd rfl (Or.inl rfl) (pe_call G_bent_rows (hr.mono (by omega)) (by rfl) T.g_bent_rows T.F_bent_rows.kp T.b_bent_rows .nil pass0 (pa_cons (pv 1) (pa_cons (pv 5) pa_nil))))))
      (pss_cons (ps_set (i := 7) sc_law.nd rfl (Or.inl rfl) (pe_call G_text (hr.mono (by omega)) (by rfl) T.g_text T.F_text.kp T.b_text .nil pass0 (pa_cons (pv 5) pa_nil)))
      (pss_one (ps_if (pt_cmpR op_ne (pe_callB (id := "repr") (call_show rfl (by show 7 + 64 < cLine; decide)) (by rfl) T.m_repr (by decide +kernel) (pa_cons (pe_call G_told_of (hr.mono (by omega)) (by rfl) T.g_told_of T.F_told_of.kp T.b_told_of .nil pass0 (pa_cons (pv 7) pa_nil)) pa_nil)) (pe_callB (id := "repr") (call_show rfl (by show 7 + 64 < cLine; decide)) (by rfl) T.m_repr (by decide +kernel) (pa_cons (pe_call G_read_text (hr.mono (by omega)) (by rfl) T.g_read_text T.F_read_text.kp T.b_read_text .nil pass0 (pa_cons (pv 7) pa_nil)) pa_nil)) (nomark _))
        (pss_one (ps_ret pe_bl))
        pss_nil)))))))))
      (pss_one (ps_ret pe_bl)))), ?_⟩
  refine ⟨_, rfl, a, ns, rfl, hS, h63, fun p H1 D1 S1 hp => ?_⟩
  have hT1 : GxR.TabG H1 T.p_house_of := (Tabs.of_same S1).tab hT0
  refine ⟨10, rfl, by show -(2 ^ 62) ≤ (10 : Int); decide, by show (10 : Int) < 2 ^ 62; decide, for_range (lo := 0) (n := 10) (fun i σ H' => (∃ y2 y3 y4 y5 y6 y7, σ = [some (.ref a), some (.ref p), y2, y3, y4, y5, y6, y7]) ∧ GxR.TabG H' T.p_house_of ∧ ∃ n, n ≤ 200 * i ∧ Deck K H' p n) ⟨⟨none, none, none, none, none, none, rfl⟩, hT1, 0, by omega, D1⟩ ?_ ?_⟩
  · rintro i σ H2 hi ⟨⟨y2, y3, y4, y5, y6, y7, rfl⟩, hT2, n, hn, D2⟩
    refine ⟨_, rfl, p, n, rfl, D2, by omega, fun q th ta z r g rs J n' hz ht6 hq qp dH dT hn' DJ KJ => ?_⟩
    have hT3 := KJ.t.tab hT2
    have rl6 : rs.length ≤ 6 := by have := ht6.2.1; omega
    have rall : ∀ x ∈ rs, RowOf 100 x := fun x hx => by
      obtain ⟨a, b, c, d, e⟩ := ht6.2.2 x hx
      exact ⟨a, b, by omega, d, by omega⟩
    have rowsy : Rowsy 5000 4 7 (houseW z r g :: rs.map rowW) := by
      refine ⟨by simp, by rw [List.length_cons, List.length_map]; omega, fun ws hw => ?_⟩
      rcases List.mem_cons.mp hw with e | e
      · rw [e]; exact rowy_short (short_house hz) (clean_house hz) (by show 4 ≤ 4; decide)
      · obtain ⟨y, hy, rfl⟩ := List.mem_map.mp e
        exact rowy_short (short_row (by decide) (rall y hy)) (clean_row (rall y hy)) (by show 3 ≤ 4; decide)
    refine ⟨q, .ref th, .ref ta, z, r, g, rs, rfl, SqT.of hq, dpSame off_in _ _ dH, hz, dpSame off_in _ _ dT, rl6, rall, fun wa wx J2 w0 w1 w2 S2 => ?_⟩
    have hT4 := (Tabs.of_same S2).tab hT3
    have DJ2 := DJ.of_grow (Grow.of_same S2)
    have wap : wa ≠ p := DJ.ne_new w0
    have w3 : Paired (LineAt K (off p J2)) wx (houseW z r g :: rs.map rowW) := Paired.mapP w2 fun v ws ⟨q, e1, e2, e3⟩ => ⟨q, e1, SqL.of (off_at (DJ.ne_new e2) e3)⟩
    generalize houseW z r g :: rs.map rowW = ls at *
    refine ⟨5, rfl, by show -(2 ^ 62) ≤ (5 : Int); decide, by show (5 : Int) < 2 ^ 62; decide, for_range (lo := 0) (n := 5) (fun j σ H' => (∃ y4 y5 y6 y7, σ = [some (.ref a), some (.ref p), some (.int (0 + (i : Int))), some (.ref wa), y4, y5, y6, y7]) ∧ Keep p J2 H' ∧ ∃ m, m ≤ n' + 20 * j ∧ Deck K H' p m) ⟨⟨_, _, _, _, rfl⟩, Keep.refl _ _, n', by omega, DJ2⟩ ?_ ?_⟩
    · rintro j σ M hj ⟨⟨y4, y5, y6, y7, rfl⟩, KM, m, hm, DM⟩
      have hwM := KM.at wap w1
      have w3M := lines_same KM.s w3
      refine ⟨_, rfl, _, rfl, p, 2, m, rfl, by decide, by decide, DM, by omega, fun r2 J3 a0 a1 D3 K3 => ?_⟩
      refine ⟨_, _, rfl, rfl, _, rfl, by omega, by omega, ?_⟩
      have w3J := lines_same K3.s w3M
      have r2' : (1 + r2).toNat ≤ 2 := by omega
      refine for_range (lo := 0) (n := (1 + r2).toNat) (fun k σ H' => ∃ (F : Addr) (us : List V) (ls' : List (List Str)) (m' : Nat) (y6 y7 : Option V), σ = [some (.ref a), some (.ref p), some (.int (0 + (i : Int))), some (.ref wa), some (.int (0 + (j : Int))), some (.ref F), y6, y7] ∧ F ≠ p ∧ SqL K H' F us ∧ Paired (LineAt K (off p H')) us ls' ∧ Rowsy (5000 + k) (4 + k) (7 + 6 * k) ls' ∧ m' ≤ m + 1 + 8 * k ∧ Deck K H' p m' ∧ Keep p J3 H') ⟨wa, wx, ls, m + 1, y6, y7, rfl, wap, SqL.of (K3.at wap hwM), w3J, rowsy, by omega, D3, Keep.refl _ _⟩ ?_ ?_
      · rintro k σ J4 hk ⟨F, us, ls', m', y6, y7, rfl, Fp, hF, pl, ry, hm', D4, K4⟩
        refine ⟨_, rfl, _, rfl, p, F, us, ls', 5000 + k, 4 + k, 7 + 6 * k, m', rfl, Fp, hF, pl, ry, by omega, by omega, by omega, by omega, D4, by omega, fun F5 us5 ls5 J5 m5 Fp5 hF5 pl5 ry5 hm5 D5 K5 => ?_⟩
        refine ⟨F5, us5, ls5, m5, _, _, rfl, Fp5, hF5, pl5, ?_, by omega, D5, K4.trans K5⟩
        have e3 : 7 + 6 * (k + 1) = 7 + 6 * k + 6 := by omega
        rw [e3]
        exact ry5
      · rintro σ J4 ⟨F, us, ls', m', y6, y7, rfl, Fp, hF, pl, ry, hm', D4, K4⟩
        have ry2 : Rowsy 5002 6 19 ls' := ⟨ry.1, by have := ry.2.1; omega, fun ws hw => (ry.2.2 ws hw).mono (by omega) (by omega)⟩
        have bt := rowsy_text ry2
        have bs := rowsy_split ry2
        have pl' := lines_same (off_in (p := p)) pl
        refine ⟨_, rfl, F, us, ls', rfl, hF, pl', by have := ry2.2.1; omega, fun ws hw => rowy_mild (ry2.2.2 ws hw) (by decide) (by decide), fun J5 S5 => ?_⟩
        have t9 : (textT ls').length ≤ 900000 := Nat.le_trans bt (by decide)
        have c9 : (Txt.split (textT ls') "\n").length ≤ 10001 := by
          have := ry2.2.1
          omega
        generalize textT ls' = t at t9 c9 ⊢
        obtain ⟨b1, b2, b3⟩ := (tiny_told t9).shows (by decide) (by decide) (by decide)
        have K25 := ((KM.trans K3).trans K4).trans (Keep.of_same (p := p) S5)
        have D5 := D4.of_grow (Grow.of_same S5)
        refine ⟨_, rfl, t, rfl, t9, c9, K25.t.tab hT4, fun v6 J6 G6 dv6 => ?_⟩
        refine ⟨v6, _, rfl, dv6, b1, b2, b3, _, rfl, t, rfl, t9, fun v7 J7 S7 dv7 => ⟨v7, _, rfl, dv7, b1, b2, b3, rfl, _, rfl, iteNS rfl ?_⟩⟩
        have G57 := G6.trans (Grow.of_same S7)
        exact ⟨⟨_, _, _, _, rfl⟩, K25.trans (Keep.of_grow G57), m', by omega, D5.of_grow G57⟩
    · rintro σ M ⟨⟨y4, y5, y6, y7, rfl⟩, KM, m, hm, DM⟩
      exact ⟨⟨_, _, _, _, _, _, rfl⟩, KM.t.tab hT4, m, by omega, DM⟩
  · rintro σ H2 ⟨⟨y2, y3, y4, y5, y6, y7, rfl⟩, _, n, hn, D2⟩
    rfl
end

theorem all_mk {l : PySem.W.OpenLaw} {w : World} {K : PySem.W.Frag} {h : Heap} {mg : Str → Option Value} {fa : Addr} (X : K.In h) (G : h.Ns mainGlobals mg) (hfa : mg "law" = some (.ref fa))
    {f0 : Addr} {od0 an0 : Option Addr} {sl0 : Array (Option Value)} {oc0 kV0 dc0 pm0 ct0 : Value} {cd0 : Value}
    (a0 : PySem.W.nsIn K mainGlobals "whole" = some (some (.ref f0))) (l0 : K.lookup f0 = some ⟨oc0, od0, .func (PySem.W.fnOf "whole" "whole" (defArgs s_whole) (defBody s_whole) (defScope s_whole) .none kV0 dc0 pm0 an0 cd0 ct0), sl0⟩) (c0 : PySem.W.codeIn K cd0 "whole" = true) (k0 : PySem.W.keepIn K (.ref f0) = true)
    {f1 : Addr} {od1 an1 : Option Addr} {sl1 : Array (Option Value)} {oc1 kV1 dc1 pm1 ct1 : Value} {cd1 : Value}
    (a1 : PySem.W.nsIn K mainGlobals "tuple_of" = some (some (.ref f1))) (l1 : K.lookup f1 = some ⟨oc1, od1, .func (PySem.W.fnOf "tuple_of" "tuple_of" (defArgs s_tuple_of) (defBody s_tuple_of) (defScope s_tuple_of) .none kV1 dc1 pm1 an1 cd1 ct1), sl1⟩) (c1 : PySem.W.codeIn K cd1 "tuple_of" = true) (k1 : PySem.W.keepIn K (.ref f1) = true)
    {f2 : Addr} {od2 an2 : Option Addr} {sl2 : Array (Option Value)} {oc2 kV2 dc2 pm2 ct2 : Value} {cd2 : Value}
    (a2 : PySem.W.nsIn K mainGlobals "rows_of_heads" = some (some (.ref f2))) (l2 : K.lookup f2 = some ⟨oc2, od2, .func (PySem.W.fnOf "rows_of_heads" "rows_of_heads" (defArgs s_rows_of_heads) (defBody s_rows_of_heads) (defScope s_rows_of_heads) .none kV2 dc2 pm2 an2 cd2 ct2), sl2⟩) (c2 : PySem.W.codeIn K cd2 "rows_of_heads" = true) (k2 : PySem.W.keepIn K (.ref f2) = true)
    {f3 : Addr} {od3 an3 : Option Addr} {sl3 : Array (Option Value)} {oc3 kV3 dc3 pm3 ct3 : Value} {cd3 : Value}
    (a3 : PySem.W.nsIn K mainGlobals "is_house" = some (some (.ref f3))) (l3 : K.lookup f3 = some ⟨oc3, od3, .func (PySem.W.fnOf "is_house" "is_house" (defArgs s_is_house) (defBody s_is_house) (defScope s_is_house) .none kV3 dc3 pm3 an3 cd3 ct3), sl3⟩) (c3 : PySem.W.codeIn K cd3 "is_house" = true) (k3 : PySem.W.keepIn K (.ref f3) = true)
    {f4 : Addr} {od4 an4 : Option Addr} {sl4 : Array (Option Value)} {oc4 kV4 dc4 pm4 ct4 : Value} {cd4 : Value}
    (a4 : PySem.W.nsIn K mainGlobals "wrong_word" = some (some (.ref f4))) (l4 : K.lookup f4 = some ⟨oc4, od4, .func (PySem.W.fnOf "wrong_word" "wrong_word" (defArgs s_wrong_word) (defBody s_wrong_word) (defScope s_wrong_word) .none kV4 dc4 pm4 an4 cd4 ct4), sl4⟩) (c4 : PySem.W.codeIn K cd4 "wrong_word" = true) (k4 : PySem.W.keepIn K (.ref f4) = true)
    {f5 : Addr} {od5 an5 : Option Addr} {sl5 : Array (Option Value)} {oc5 kV5 dc5 pm5 ct5 : Value} {cc5 pp5 : Addr} {oo5 : Obj}
    (a5 : PySem.W.nsIn K mainGlobals "house_of" = some (some (.ref f5))) (l5 : K.lookup f5 = some ⟨oc5, od5, .func (PySem.W.fnOf "house_of" "house_of" (defArgs s_house_of) (defBody s_house_of) (defScope s_house_of) .none kV5 dc5 pm5 an5 (.ref cc5) ct5), sl5⟩) (c5 : PySem.W.codeIn K (.ref cc5) "house_of" = true) (k5 : PySem.W.keepIn K (.ref f5) = true)
    (u5 : K.lookup cc5 = some oo5) (v5 : TabField oo5 pp5) (y5 : K.lookup pp5 = none) (tk5 : CodeKnown mg h "house_of")
    {f6 : Addr} {od6 an6 : Option Addr} {sl6 : Array (Option Value)} {oc6 kV6 dc6 pm6 ct6 : Value} {cd6 : Value}
    (a6 : PySem.W.nsIn K mainGlobals "row_of" = some (some (.ref f6))) (l6 : K.lookup f6 = some ⟨oc6, od6, .func (PySem.W.fnOf "row_of" "row_of" (defArgs s_row_of) (defBody s_row_of) (defScope s_row_of) .none kV6 dc6 pm6 an6 cd6 ct6), sl6⟩) (c6 : PySem.W.codeIn K cd6 "row_of" = true) (k6 : PySem.W.keepIn K (.ref f6) = true)
    {f7 : Addr} {od7 an7 : Option Addr} {sl7 : Array (Option Value)} {oc7 kV7 dc7 pm7 ct7 : Value} {cd7 : Value}
    (a7 : PySem.W.nsIn K mainGlobals "wrong_house_word" = some (some (.ref f7))) (l7 : K.lookup f7 = some ⟨oc7, od7, .func (PySem.W.fnOf "wrong_house_word" "wrong_house_word" (defArgs s_wrong_house_word) (defBody s_wrong_house_word) (defScope s_wrong_house_word) .none kV7 dc7 pm7 an7 cd7 ct7), sl7⟩) (c7 : PySem.W.codeIn K cd7 "wrong_house_word" = true) (k7 : PySem.W.keepIn K (.ref f7) = true)
    {f8 : Addr} {od8 an8 : Option Addr} {sl8 : Array (Option Value)} {oc8 kV8 dc8 pm8 ct8 : Value} {cd8 : Value}
    (a8 : PySem.W.nsIn K mainGlobals "wrong_word_of" = some (some (.ref f8))) (l8 : K.lookup f8 = some ⟨oc8, od8, .func (PySem.W.fnOf "wrong_word_of" "wrong_word_of" (defArgs s_wrong_word_of) (defBody s_wrong_word_of) (defScope s_wrong_word_of) .none kV8 dc8 pm8 an8 cd8 ct8), sl8⟩) (c8 : PySem.W.codeIn K cd8 "wrong_word_of" = true) (k8 : PySem.W.keepIn K (.ref f8) = true)
    {f9 : Addr} {od9 an9 : Option Addr} {sl9 : Array (Option Value)} {oc9 kV9 dc9 pm9 ct9 : Value} {cd9 : Value}
    (a9 : PySem.W.nsIn K mainGlobals "check_words" = some (some (.ref f9))) (l9 : K.lookup f9 = some ⟨oc9, od9, .func (PySem.W.fnOf "check_words" "check_words" (defArgs s_check_words) (defBody s_check_words) (defScope s_check_words) .none kV9 dc9 pm9 an9 cd9 ct9), sl9⟩) (c9 : PySem.W.codeIn K cd9 "check_words" = true) (k9 : PySem.W.keepIn K (.ref f9) = true)
    {f10 : Addr} {od10 an10 : Option Addr} {sl10 : Array (Option Value)} {oc10 kV10 dc10 pm10 ct10 : Value} {cd10 : Value}
    (a10 : PySem.W.nsIn K mainGlobals "check_numbers" = some (some (.ref f10))) (l10 : K.lookup f10 = some ⟨oc10, od10, .func (PySem.W.fnOf "check_numbers" "check_numbers" (defArgs s_check_numbers) (defBody s_check_numbers) (defScope s_check_numbers) .none kV10 dc10 pm10 an10 cd10 ct10), sl10⟩) (c10 : PySem.W.codeIn K cd10 "check_numbers" = true) (k10 : PySem.W.keepIn K (.ref f10) = true)
    {f11 : Addr} {od11 an11 : Option Addr} {sl11 : Array (Option Value)} {oc11 kV11 dc11 pm11 ct11 : Value} {cd11 : Value}
    (a11 : PySem.W.nsIn K mainGlobals "read_table" = some (some (.ref f11))) (l11 : K.lookup f11 = some ⟨oc11, od11, .func (PySem.W.fnOf "read_table" "read_table" (defArgs s_read_table) (defBody s_read_table) (defScope s_read_table) .none kV11 dc11 pm11 an11 cd11 ct11), sl11⟩) (c11 : PySem.W.codeIn K cd11 "read_table" = true) (k11 : PySem.W.keepIn K (.ref f11) = true)
    {f12 : Addr} {od12 an12 : Option Addr} {sl12 : Array (Option Value)} {oc12 kV12 dc12 pm12 ct12 : Value} {cd12 : Value}
    (a12 : PySem.W.nsIn K mainGlobals "_law_deck" = some (some (.ref f12))) (l12 : K.lookup f12 = some ⟨oc12, od12, .func (PySem.W.fnOf "_law_deck" "_law_deck" (defArgs s_deck) (defBody s_deck) (defScope s_deck) .none kV12 dc12 pm12 an12 cd12 ct12), sl12⟩) (c12 : PySem.W.codeIn K cd12 "_law_deck" = true) (k12 : PySem.W.keepIn K (.ref f12) = true)
    {f13 : Addr} {od13 an13 : Option Addr} {sl13 : Array (Option Value)} {oc13 kV13 dc13 pm13 ct13 : Value} {cd13 : Value}
    (a13 : PySem.W.nsIn K mainGlobals "_law_draw" = some (some (.ref f13))) (l13 : K.lookup f13 = some ⟨oc13, od13, .func (PySem.W.fnOf "_law_draw" "_law_draw" (defArgs s_draw) (defBody s_draw) (defScope s_draw) .none kV13 dc13 pm13 an13 cd13 ct13), sl13⟩) (c13 : PySem.W.codeIn K cd13 "_law_draw" = true) (k13 : PySem.W.keepIn K (.ref f13) = true)
    {f14 : Addr} {od14 an14 : Option Addr} {sl14 : Array (Option Value)} {oc14 kV14 dc14 pm14 ct14 : Value} {cd14 : Value}
    (a14 : PySem.W.nsIn K mainGlobals "_law_one" = some (some (.ref f14))) (l14 : K.lookup f14 = some ⟨oc14, od14, .func (PySem.W.fnOf "_law_one" "_law_one" (defArgs s_one) (defBody s_one) (defScope s_one) .none kV14 dc14 pm14 an14 cd14 ct14), sl14⟩) (c14 : PySem.W.codeIn K cd14 "_law_one" = true) (k14 : PySem.W.keepIn K (.ref f14) = true)
    {f15 : Addr} {od15 an15 : Option Addr} {sl15 : Array (Option Value)} {oc15 kV15 dc15 pm15 ct15 : Value} {cd15 : Value}
    (a15 : PySem.W.nsIn K mainGlobals "_law_power" = some (some (.ref f15))) (l15 : K.lookup f15 = some ⟨oc15, od15, .func (PySem.W.fnOf "_law_power" "_law_power" (defArgs s_power) (defBody s_power) (defScope s_power) .none kV15 dc15 pm15 an15 cd15 ct15), sl15⟩) (c15 : PySem.W.codeIn K cd15 "_law_power" = true) (k15 : PySem.W.keepIn K (.ref f15) = true)
    {f16 : Addr} {od16 an16 : Option Addr} {sl16 : Array (Option Value)} {oc16 kV16 dc16 pm16 ct16 : Value} {cd16 : Value}
    (a16 : PySem.W.nsIn K mainGlobals "_law_house" = some (some (.ref f16))) (l16 : K.lookup f16 = some ⟨oc16, od16, .func (PySem.W.fnOf "_law_house" "_law_house" (defArgs s_house) (defBody s_house) (defScope s_house) .none kV16 dc16 pm16 an16 cd16 ct16), sl16⟩) (c16 : PySem.W.codeIn K cd16 "_law_house" = true) (k16 : PySem.W.keepIn K (.ref f16) = true)
    {f17 : Addr} {od17 an17 : Option Addr} {sl17 : Array (Option Value)} {oc17 kV17 dc17 pm17 ct17 : Value} {cd17 : Value}
    (a17 : PySem.W.nsIn K mainGlobals "_law_rows_that_fit" = some (some (.ref f17))) (l17 : K.lookup f17 = some ⟨oc17, od17, .func (PySem.W.fnOf "_law_rows_that_fit" "_law_rows_that_fit" (defArgs s_rows_that_fit) (defBody s_rows_that_fit) (defScope s_rows_that_fit) .none kV17 dc17 pm17 an17 cd17 ct17), sl17⟩) (c17 : PySem.W.codeIn K cd17 "_law_rows_that_fit" = true) (k17 : PySem.W.keepIn K (.ref f17) = true)
    {f18 : Addr} {od18 an18 : Option Addr} {sl18 : Array (Option Value)} {oc18 kV18 dc18 pm18 ct18 : Value} {cd18 : Value}
    (a18 : PySem.W.nsIn K mainGlobals "_law_table" = some (some (.ref f18))) (l18 : K.lookup f18 = some ⟨oc18, od18, .func (PySem.W.fnOf "_law_table" "_law_table" (defArgs s_table) (defBody s_table) (defScope s_table) .none kV18 dc18 pm18 an18 cd18 ct18), sl18⟩) (c18 : PySem.W.codeIn K cd18 "_law_table" = true) (k18 : PySem.W.keepIn K (.ref f18) = true)
    {f19 : Addr} {od19 an19 : Option Addr} {sl19 : Array (Option Value)} {oc19 kV19 dc19 pm19 ct19 : Value} {cd19 : Value}
    (a19 : PySem.W.nsIn K mainGlobals "_law_any" = some (some (.ref f19))) (l19 : K.lookup f19 = some ⟨oc19, od19, .func (PySem.W.fnOf "_law_any" "_law_any" (defArgs s_any) (defBody s_any) (defScope s_any) .none kV19 dc19 pm19 an19 cd19 ct19), sl19⟩) (c19 : PySem.W.codeIn K cd19 "_law_any" = true) (k19 : PySem.W.keepIn K (.ref f19) = true)
    {f20 : Addr} {od20 an20 : Option Addr} {sl20 : Array (Option Value)} {oc20 kV20 dc20 pm20 ct20 : Value} {cd20 : Value}
    (a20 : PySem.W.nsIn K mainGlobals "_law_words" = some (some (.ref f20))) (l20 : K.lookup f20 = some ⟨oc20, od20, .func (PySem.W.fnOf "_law_words" "_law_words" (defArgs s_words) (defBody s_words) (defScope s_words) .none kV20 dc20 pm20 an20 cd20 ct20), sl20⟩) (c20 : PySem.W.codeIn K cd20 "_law_words" = true) (k20 : PySem.W.keepIn K (.ref f20) = true)
    {f21 : Addr} {od21 an21 : Option Addr} {sl21 : Array (Option Value)} {oc21 kV21 dc21 pm21 ct21 : Value} {cd21 : Value}
    (a21 : PySem.W.nsIn K mainGlobals "_law_text" = some (some (.ref f21))) (l21 : K.lookup f21 = some ⟨oc21, od21, .func (PySem.W.fnOf "_law_text" "_law_text" (defArgs s_text) (defBody s_text) (defScope s_text) .none kV21 dc21 pm21 an21 cd21 ct21), sl21⟩) (c21 : PySem.W.codeIn K cd21 "_law_text" = true) (k21 : PySem.W.keepIn K (.ref f21) = true)
    {f22 : Addr} {od22 an22 : Option Addr} {sl22 : Array (Option Value)} {oc22 kV22 dc22 pm22 ct22 : Value} {cd22 : Value}
    (a22 : PySem.W.nsIn K mainGlobals "_law_digit" = some (some (.ref f22))) (l22 : K.lookup f22 = some ⟨oc22, od22, .func (PySem.W.fnOf "_law_digit" "_law_digit" (defArgs s_digit) (defBody s_digit) (defScope s_digit) .none kV22 dc22 pm22 an22 cd22 ct22), sl22⟩) (c22 : PySem.W.codeIn K cd22 "_law_digit" = true) (k22 : PySem.W.keepIn K (.ref f22) = true)
    {f23 : Addr} {od23 an23 : Option Addr} {sl23 : Array (Option Value)} {oc23 kV23 dc23 pm23 ct23 : Value} {cd23 : Value}
    (a23 : PySem.W.nsIn K mainGlobals "_law_house_row" = some (some (.ref f23))) (l23 : K.lookup f23 = some ⟨oc23, od23, .func (PySem.W.fnOf "_law_house_row" "_law_house_row" (defArgs s_house_row) (defBody s_house_row) (defScope s_house_row) .none kV23 dc23 pm23 an23 cd23 ct23), sl23⟩) (c23 : PySem.W.codeIn K cd23 "_law_house_row" = true) (k23 : PySem.W.keepIn K (.ref f23) = true)
    {f24 : Addr} {od24 an24 : Option Addr} {sl24 : Array (Option Value)} {oc24 kV24 dc24 pm24 ct24 : Value} {cd24 : Value}
    (a24 : PySem.W.nsIn K mainGlobals "_law_table_row" = some (some (.ref f24))) (l24 : K.lookup f24 = some ⟨oc24, od24, .func (PySem.W.fnOf "_law_table_row" "_law_table_row" (defArgs s_table_row) (defBody s_table_row) (defScope s_table_row) .none kV24 dc24 pm24 an24 cd24 ct24), sl24⟩) (c24 : PySem.W.codeIn K cd24 "_law_table_row" = true) (k24 : PySem.W.keepIn K (.ref f24) = true)
    {f25 : Addr} {od25 an25 : Option Addr} {sl25 : Array (Option Value)} {oc25 kV25 dc25 pm25 ct25 : Value} {cd25 : Value}
    (a25 : PySem.W.nsIn K mainGlobals "_law_rows_read" = some (some (.ref f25))) (l25 : K.lookup f25 = some ⟨oc25, od25, .func (PySem.W.fnOf "_law_rows_read" "_law_rows_read" (defArgs s_rows_read) (defBody s_rows_read) (defScope s_rows_read) .none kV25 dc25 pm25 an25 cd25 ct25), sl25⟩) (c25 : PySem.W.codeIn K cd25 "_law_rows_read" = true) (k25 : PySem.W.keepIn K (.ref f25) = true)
    {f26 : Addr} {od26 an26 : Option Addr} {sl26 : Array (Option Value)} {oc26 kV26 dc26 pm26 ct26 : Value} {cd26 : Value}
    (a26 : PySem.W.nsIn K mainGlobals "_law_read_text" = some (some (.ref f26))) (l26 : K.lookup f26 = some ⟨oc26, od26, .func (PySem.W.fnOf "_law_read_text" "_law_read_text" (defArgs s_read_text) (defBody s_read_text) (defScope s_read_text) .none kV26 dc26 pm26 an26 cd26 ct26), sl26⟩) (c26 : PySem.W.codeIn K cd26 "_law_read_text" = true) (k26 : PySem.W.keepIn K (.ref f26) = true)
    {f27 : Addr} {od27 an27 : Option Addr} {sl27 : Array (Option Value)} {oc27 kV27 dc27 pm27 ct27 : Value} {cd27 : Value}
    (a27 : PySem.W.nsIn K mainGlobals "_law_told_of" = some (some (.ref f27))) (l27 : K.lookup f27 = some ⟨oc27, od27, .func (PySem.W.fnOf "_law_told_of" "_law_told_of" (defArgs s_told_of) (defBody s_told_of) (defScope s_told_of) .none kV27 dc27 pm27 an27 cd27 ct27), sl27⟩) (c27 : PySem.W.codeIn K cd27 "_law_told_of" = true) (k27 : PySem.W.keepIn K (.ref f27) = true)
    {f28 : Addr} {od28 an28 : Option Addr} {sl28 : Array (Option Value)} {oc28 kV28 dc28 pm28 ct28 : Value} {cd28 : Value}
    (a28 : PySem.W.nsIn K mainGlobals "_law_odd_word" = some (some (.ref f28))) (l28 : K.lookup f28 = some ⟨oc28, od28, .func (PySem.W.fnOf "_law_odd_word" "_law_odd_word" (defArgs s_odd_word) (defBody s_odd_word) (defScope s_odd_word) .none kV28 dc28 pm28 an28 cd28 ct28), sl28⟩) (c28 : PySem.W.codeIn K cd28 "_law_odd_word" = true) (k28 : PySem.W.keepIn K (.ref f28) = true)
    {f29 : Addr} {od29 an29 : Option Addr} {sl29 : Array (Option Value)} {oc29 kV29 dc29 pm29 ct29 : Value} {cd29 : Value}
    (a29 : PySem.W.nsIn K mainGlobals "_law_bent_rows" = some (some (.ref f29))) (l29 : K.lookup f29 = some ⟨oc29, od29, .func (PySem.W.fnOf "_law_bent_rows" "_law_bent_rows" (defArgs s_bent_rows) (defBody s_bent_rows) (defScope s_bent_rows) .none kV29 dc29 pm29 an29 cd29 ct29), sl29⟩) (c29 : PySem.W.codeIn K cd29 "_law_bent_rows" = true) (k29 : PySem.W.keepIn K (.ref f29) = true)
    {f30 : Addr} {od30 an30 : Option Addr} {sl30 : Array (Option Value)} {oc30 kV30 dc30 pm30 ct30 : Value} {cd30 : Value}
    (a30 : PySem.W.nsIn K mainGlobals "law" = some (some (.ref f30))) (l30 : K.lookup f30 = some ⟨oc30, od30, .func (PySem.W.fnOf "law" "law" (defArgs s_law) (defBody s_law) (defScope s_law) .none kV30 dc30 pm30 an30 cd30 ct30), sl30⟩) (c30 : PySem.W.codeIn K cd30 "law" = true) (k30 : PySem.W.keepIn K (.ref f30) = true)
    {t_MOST_HEADS : Tok} (v_MOST_HEADS : PySem.W.nsIn K mainGlobals "MOST_HEADS" = some (some (.int (81) t_MOST_HEADS)))
    {t_MOST_ROWS : Tok} (v_MOST_ROWS : PySem.W.nsIn K mainGlobals "MOST_ROWS" = some (some (.int (6) t_MOST_ROWS)))
    {p_HOUSE_WORDS : Addr} {p_HOUSE_WORDS_0 : Addr} {p_HOUSE_WORDS_1 : Addr} {p_HOUSE_WORDS_2 : Addr} {p_HOUSE_WORDS_3 : Addr} {o_HOUSE_WORDS : Obj} (v_HOUSE_WORDS : PySem.W.nsIn K mainGlobals "HOUSE_WORDS" = some (some (.ref p_HOUSE_WORDS))) (w_HOUSE_WORDS : K.lookup p_HOUSE_WORDS = some o_HOUSE_WORDS) (x_HOUSE_WORDS : TupOf o_HOUSE_WORDS [.ref p_HOUSE_WORDS_0, .ref p_HOUSE_WORDS_1, .ref p_HOUSE_WORDS_2, .ref p_HOUSE_WORDS_3])
    {o_HOUSE_WORDS_0 : Obj} (w_HOUSE_WORDS_0 : K.lookup p_HOUSE_WORDS_0 = some o_HOUSE_WORDS_0) (x_HOUSE_WORDS_0 : TupOf o_HOUSE_WORDS_0 [.str "house"])
    {o_HOUSE_WORDS_1 : Obj} (w_HOUSE_WORDS_1 : K.lookup p_HOUSE_WORDS_1 = some o_HOUSE_WORDS_1) (x_HOUSE_WORDS_1 : TupOf o_HOUSE_WORDS_1 [.str "2", .str "3", .str "4"])
    {o_HOUSE_WORDS_2 : Obj} (w_HOUSE_WORDS_2 : K.lookup p_HOUSE_WORDS_2 = some o_HOUSE_WORDS_2) (x_HOUSE_WORDS_2 : TupOf o_HOUSE_WORDS_2 [.str "1", .str "2", .str "3", .str "4", .str "5", .str "6"])
    {o_HOUSE_WORDS_3 : Obj} (w_HOUSE_WORDS_3 : K.lookup p_HOUSE_WORDS_3 = some o_HOUSE_WORDS_3) (x_HOUSE_WORDS_3 : TupOf o_HOUSE_WORDS_3 [.str "0", .str "1", .str "2", .str "3"])
    {p_ROW_WORDS : Addr} {p_ROW_WORDS_0 : Addr} {p_ROW_WORDS_1 : Addr} {p_ROW_WORDS_2 : Addr} {o_ROW_WORDS : Obj} (v_ROW_WORDS : PySem.W.nsIn K mainGlobals "ROW_WORDS" = some (some (.ref p_ROW_WORDS))) (w_ROW_WORDS : K.lookup p_ROW_WORDS = some o_ROW_WORDS) (x_ROW_WORDS : TupOf o_ROW_WORDS [.ref p_ROW_WORDS_0, .ref p_ROW_WORDS_1, .ref p_ROW_WORDS_2])
    {o_ROW_WORDS_0 : Obj} (w_ROW_WORDS_0 : K.lookup p_ROW_WORDS_0 = some o_ROW_WORDS_0) (x_ROW_WORDS_0 : TupOf o_ROW_WORDS_0 [.str "named", .str "next", .str "wait"])
    {o_ROW_WORDS_1 : Obj} (w_ROW_WORDS_1 : K.lookup p_ROW_WORDS_1 = some o_ROW_WORDS_1) (x_ROW_WORDS_1 : TupOf o_ROW_WORDS_1 [.str "0", .str "1", .str "2", .str "3", .str "4", .str "5"])
    {o_ROW_WORDS_2 : Obj} (w_ROW_WORDS_2 : K.lookup p_ROW_WORDS_2 = some o_ROW_WORDS_2) (x_ROW_WORDS_2 : TupOf o_ROW_WORDS_2 [.str "0", .str "1", .str "2", .str "3", .str "4", .str "5"])
    {t_LAG_PLACE : Tok} (v_LAG_PLACE : PySem.W.nsIn K mainGlobals "LAG_PLACE" = some (some (.int (3) t_LAG_PLACE)))
    {p_ROW_PLACES : Addr} {o_ROW_PLACES : Obj} (v_ROW_PLACES : PySem.W.nsIn K mainGlobals "ROW_PLACES" = some (some (.ref p_ROW_PLACES))) (w_ROW_PLACES : K.lookup p_ROW_PLACES = some o_ROW_PLACES) (x_ROW_PLACES : TupOf o_ROW_PLACES [.int (1), .int (2)])
    (z_ValueError : PySem.W.nsIn K mainGlobals "ValueError" = some none)
    (z_abs : PySem.W.nsIn K mainGlobals "abs" = some none)
    (z_bool : PySem.W.nsIn K mainGlobals "bool" = some none)
    (z_e : PySem.W.nsIn K mainGlobals "e" = some none)
    (z_enumerate : PySem.W.nsIn K mainGlobals "enumerate" = some none)
    (z_int : PySem.W.nsIn K mainGlobals "int" = some none)
    (z_isinstance : PySem.W.nsIn K mainGlobals "isinstance" = some none)
    (z_len : PySem.W.nsIn K mainGlobals "len" = some none)
    (z_list : PySem.W.nsIn K mainGlobals "list" = some none)
    (z_max : PySem.W.nsIn K mainGlobals "max" = some none)
    (z_min : PySem.W.nsIn K mainGlobals "min" = some none)
    (z_range : PySem.W.nsIn K mainGlobals "range" = some none)
    (z_repr : PySem.W.nsIn K mainGlobals "repr" = some none)
    (z_str : PySem.W.nsIn K mainGlobals "str" = some none)
    (z_tuple : PySem.W.nsIn K mainGlobals "tuple" = some none)
    {CBadText BBadText IBadText : Addr} {nmBadText qBadText : Str} {NBadText : Addr} {bsBadText bmBadText : List Value} {snBadText : List Str} {subBadText : List Value} {abBadText : Bool} {colBadText : Option Bool} {ddBadText : Option Addr} {m0BadText m1BadText m2BadText m3BadText m5BadText : Option Value}
    {odIBadText anIBadText : Option Addr} {slIBadText : Array (Option Value)} {ocIBadText dcIBadText pmIBadText cdIBadText ctIBadText kVIBadText : Value}
    (eC_BadText : PySem.W.nsIn K mainGlobals "BadText" = some (some (.ref CBadText)))
    (eB_BadText : PySem.W.nsIn K mainGlobals "AskError" = some (some (.ref BBadText)))
    (eL_BadText : K.lookup CBadText = some (excClassObj nmBadText qBadText CBadText NBadText bsBadText bmBadText true snBadText subBadText abBadText colBadText ddBadText m0BadText m1BadText m2BadText m3BadText m5BadText "ValueError.__new__"))
    (eR_BadText : PySem.HandSPX.refsVE bmBadText = true)
    (eS_BadText : PySem.W.findIn K (.ref CBadText) "__setattr__" = some (some (.builtin "object.__setattr__")))
    (eG_BadText : PySem.W.findIn K (.ref CBadText) "__getattribute__" = some (some (.builtin "BaseException.__getattribute__")))
    (eH_BadText : PySem.W.findIn K (.ref CBadText) "__getattr__" = some none)
    (eF_BadText : PySem.W.findIn K (.ref CBadText) "line" = some none)
    (eW_BadText : PySem.W.findIn K (.ref CBadText) "word" = some none)
    (eI_BadText : PySem.W.findIn K (.ref CBadText) "__init__" = some (some (.ref IBadText)))
    (eT_BadText : PySem.W.typeIn K (.ref IBadText) = some (.type "function"))
    (eX_BadText : K.lookup IBadText = some ⟨ocIBadText, odIBadText, .func (PySem.W.fnOf "__init__" "BadText.__init__" (defArgs s_BadText_init) (defBody s_BadText_init) (defScope s_BadText_init) .none kVIBadText dcIBadText pmIBadText anIBadText cdIBadText ctIBadText), slIBadText⟩)
    (eY_BadText : PySem.W.codeIn K cdIBadText "BadText.__init__" = true)
    (eZ_BadText : PySem.W.keepIn K (.ref IBadText) = true)
    (eK_BadText : PySem.W.keepIn K (.ref CBadText) = true)
    (eE_BadText : PySem.W.subIn K (.ref CBadText) (.type "BaseException") = some true)
    (eM_BadText : PySem.W.typeIn K (.ref CBadText) = some (.type "type"))
    (eD_BadText : PySem.W.hasDictIn K CBadText = true)
    (eJ_BadText : PySem.W.isClsIn K CBadText = true)
    (eP_BadText : PySem.W.subIn K (.ref CBadText) (.ref CBadText) = some true)
    (eN_BadText : PySem.W.findIn K (.ref CBadText) "__class__" = some (some (.builtin "object.__class__")))
    (eO_BadText : PySem.W.specialIn K (.builtin "object.__class__") "__get__" = some (some (.builtin "getset_descriptor.__get__")))
    (eQ_BadText : PySem.W.takesIn K (.builtin "object.__class__") = some true)
    (eU_BadText : PySem.W.mroIn K CBadText (.type "object") = some true)
    (eV_BadText : PySem.W.isClsIn K BBadText = true)
    (fA_BadText : PySem.W.typeIn K (.ref BBadText) = some (.type "type"))
    (fB_BadText : PySem.W.subIn K (.ref CBadText) (.ref BBadText) = some true)
    (fC_BadText : PySem.W.subIn K (.ref CBadText) (.type "ValueError") = some true)
    : ∃ (fd : FuncData) (cs : List (Addr × Addr)), Fun K "law" "law" s_law fa fd ∧ (∀ (s : Shared) (u : Value), BindsTo s fd ⟨[u], []⟩ [("_law_script", u)]) ∧
      (∀ p ∈ cs, h.get? p.2 = some { cls := .none, data := .fields #[] } ∧ K.lookup p.2 = none ∧ PySem.W.CodeHd h p.1 p.2 ∧ h.IsCode p.1 p.2 #[] ∧ h.TableAt p.1 p.2 #[]) ∧
        ∀ base : Heap, K.In base → (∀ p ∈ cs, GxR.TabB base mg p.1 p.2) → LawDoesT l.prog w K mg base s_law ["_law_script", "_law_deck_here", "_law_turn", "_law_rows", "_law_k", "_law_bent", "_law_more", "_law_text_here"] fa cs := by
  have e := hfa.symm.trans (PySem.W.mg_of X G a30)
  cases e
  have F0 := fun_mk (st := s_whole) l0 c0 k0
  have F1 := fun_mk (st := s_tuple_of) l1 c1 k1
  have F2 := fun_mk (st := s_rows_of_heads) l2 c2 k2
  have F3 := fun_mk (st := s_is_house) l3 c3 k3
  have F4 := fun_mk (st := s_wrong_word) l4 c4 k4
  have F5 := fun_mk (st := s_house_of) l5 c5 k5
  have F6 := fun_mk (st := s_row_of) l6 c6 k6
  have F7 := fun_mk (st := s_wrong_house_word) l7 c7 k7
  have F8 := fun_mk (st := s_wrong_word_of) l8 c8 k8
  have F9 := fun_mk (st := s_check_words) l9 c9 k9
  have F10 := fun_mk (st := s_check_numbers) l10 c10 k10
  have F11 := fun_mk (st := s_read_table) l11 c11 k11
  have F12 := fun_mk (st := s_deck) l12 c12 k12
  have F13 := fun_mk (st := s_draw) l13 c13 k13
  have F14 := fun_mk (st := s_one) l14 c14 k14
  have F15 := fun_mk (st := s_power) l15 c15 k15
  have F16 := fun_mk (st := s_house) l16 c16 k16
  have F17 := fun_mk (st := s_rows_that_fit) l17 c17 k17
  have F18 := fun_mk (st := s_table) l18 c18 k18
  have F19 := fun_mk (st := s_any) l19 c19 k19
  have F20 := fun_mk (st := s_words) l20 c20 k20
  have F21 := fun_mk (st := s_text) l21 c21 k21
  have F22 := fun_mk (st := s_digit) l22 c22 k22
  have F23 := fun_mk (st := s_house_row) l23 c23 k23
  have F24 := fun_mk (st := s_table_row) l24 c24 k24
  have F25 := fun_mk (st := s_rows_read) l25 c25 k25
  have F26 := fun_mk (st := s_read_text) l26 c26 k26
  have F27 := fun_mk (st := s_told_of) l27 c27 k27
  have F28 := fun_mk (st := s_odd_word) l28 c28 k28
  have F29 := fun_mk (st := s_bent_rows) l29 c29 k29
  have FIBadText := fun_mk (st := s_BadText_init) eX_BadText eY_BadText eZ_BadText
  let T : Txt K mg := ⟨_,
    _,
    F0,
    PySem.W.mg_of X G a0,
    F0.binds (ps := ["value", "low", "high"]) fun _ _ _ _ _ _ us hl => match us, hl with | [_, _, _], _ => rfl,
    _,
    _,
    F1,
    PySem.W.mg_of X G a1,
    F1.binds (ps := ["value", "many"]) fun _ _ _ _ _ _ us hl => match us, hl with | [_, _], _ => rfl,
    _,
    _,
    F2,
    PySem.W.mg_of X G a2,
    F2.binds (ps := ["servers", "lag"]) fun _ _ _ _ _ _ us hl => match us, hl with | [_, _], _ => rfl,
    _,
    _,
    F3,
    PySem.W.mg_of X G a3,
    F3.binds (ps := ["value"]) fun _ _ _ _ _ _ us hl => match us, hl with | [_], _ => rfl,
    _,
    _,
    F4,
    PySem.W.mg_of X G a4,
    F4.binds (ps := ["words", "places"]) fun _ _ _ _ _ _ us hl => match us, hl with | [_, _], _ => rfl,
    _,
    _,
    F5,
    PySem.W.mg_of X G a5,
    F5.binds (ps := ["words"]) fun _ _ _ _ _ _ us hl => match us, hl with | [_], _ => rfl,
    cc5,
    pp5,
    rfl,
    _,
    _,
    F6,
    PySem.W.mg_of X G a6,
    F6.binds (ps := ["words"]) fun _ _ _ _ _ _ us hl => match us, hl with | [_], _ => rfl,
    _,
    _,
    F7,
    PySem.W.mg_of X G a7,
    F7.binds (ps := ["words"]) fun _ _ _ _ _ _ us hl => match us, hl with | [_], _ => rfl,
    _,
    _,
    F8,
    PySem.W.mg_of X G a8,
    F8.binds (ps := ["number", "words"]) fun _ _ _ _ _ _ us hl => match us, hl with | [_, _], _ => rfl,
    _,
    _,
    F9,
    PySem.W.mg_of X G a9,
    F9.binds (ps := ["lines"]) fun _ _ _ _ _ _ us hl => match us, hl with | [_], _ => rfl,
    _,
    _,
    F10,
    PySem.W.mg_of X G a10,
    F10.binds (ps := ["lines"]) fun _ _ _ _ _ _ us hl => match us, hl with | [_], _ => rfl,
    _,
    _,
    F11,
    PySem.W.mg_of X G a11,
    F11.binds (ps := ["text"]) fun _ _ _ _ _ _ us hl => match us, hl with | [_], _ => rfl,
    _,
    _,
    F12,
    PySem.W.mg_of X G a12,
    F12.binds (ps := ["_law_script"]) fun _ _ _ _ _ _ us hl => match us, hl with | [_], _ => rfl,
    _,
    _,
    F13,
    PySem.W.mg_of X G a13,
    F13.binds (ps := ["_law_deck_here", "_law_many"]) fun _ _ _ _ _ _ us hl => match us, hl with | [_, _], _ => rfl,
    _,
    _,
    F14,
    PySem.W.mg_of X G a14,
    F14.binds (ps := ["_law_deck_here", "_law_items"]) fun _ _ _ _ _ _ us hl => match us, hl with | [_, _], _ => rfl,
    _,
    _,
    F15,
    PySem.W.mg_of X G a15,
    F15.binds (ps := ["_law_servers", "_law_lag"]) fun _ _ _ _ _ _ us hl => match us, hl with | [_, _], _ => rfl,
    _,
    _,
    F16,
    PySem.W.mg_of X G a16,
    F16.binds (ps := ["_law_deck_here", "_law_room"]) fun _ _ _ _ _ _ us hl => match us, hl with | [_, _], _ => rfl,
    _,
    _,
    F17,
    PySem.W.mg_of X G a17,
    F17.binds (ps := ["_law_house_here"]) fun _ _ _ _ _ _ us hl => match us, hl with | [_], _ => rfl,
    _,
    _,
    F18,
    PySem.W.mg_of X G a18,
    F18.binds (ps := ["_law_deck_here", "_law_room"]) fun _ _ _ _ _ _ us hl => match us, hl with | [_, _], _ => rfl,
    _,
    _,
    F19,
    PySem.W.mg_of X G a19,
    F19.binds (ps := ["_law_deck_here"]) fun _ _ _ _ _ _ us hl => match us, hl with | [_], _ => rfl,
    _,
    _,
    F20,
    PySem.W.mg_of X G a20,
    F20.binds (ps := ["_law_pair"]) fun _ _ _ _ _ _ us hl => match us, hl with | [_], _ => rfl,
    _,
    _,
    F21,
    PySem.W.mg_of X G a21,
    F21.binds (ps := ["_law_rows"]) fun _ _ _ _ _ _ us hl => match us, hl with | [_], _ => rfl,
    _,
    _,
    F22,
    PySem.W.mg_of X G a22,
    F22.binds (ps := ["_law_words_here", "_law_at", "_law_low", "_law_high"]) fun _ _ _ _ _ _ us hl => match us, hl with | [_, _, _, _], _ => rfl,
    _,
    _,
    F23,
    PySem.W.mg_of X G a23,
    F23.binds (ps := ["_law_words_here"]) fun _ _ _ _ _ _ us hl => match us, hl with | [_], _ => rfl,
    _,
    _,
    F24,
    PySem.W.mg_of X G a24,
    F24.binds (ps := ["_law_words_here"]) fun _ _ _ _ _ _ us hl => match us, hl with | [_], _ => rfl,
    _,
    _,
    F25,
    PySem.W.mg_of X G a25,
    F25.binds (ps := ["_law_rows"]) fun _ _ _ _ _ _ us hl => match us, hl with | [_], _ => rfl,
    _,
    _,
    F26,
    PySem.W.mg_of X G a26,
    F26.binds (ps := ["_law_text_here"]) fun _ _ _ _ _ _ us hl => match us, hl with | [_], _ => rfl,
    _,
    _,
    F27,
    PySem.W.mg_of X G a27,
    F27.binds (ps := ["_law_text_here"]) fun _ _ _ _ _ _ us hl => match us, hl with | [_], _ => rfl,
    _,
    _,
    F28,
    PySem.W.mg_of X G a28,
    F28.binds (ps := ["_law_deck_here", "_law_word"]) fun _ _ _ _ _ _ us hl => match us, hl with | [_, _], _ => rfl,
    _,
    _,
    F29,
    PySem.W.mg_of X G a29,
    F29.binds (ps := ["_law_deck_here", "_law_rows"]) fun _ _ _ _ _ _ us hl => match us, hl with | [_, _], _ => rfl,
    _,
    PySem.W.mg_of X G v_MOST_HEADS,
    _,
    PySem.W.mg_of X G v_MOST_ROWS,
    _,
    x_HOUSE_WORDS_0.sq w_HOUSE_WORDS_0,
    _,
    x_HOUSE_WORDS_1.sq w_HOUSE_WORDS_1,
    _,
    x_HOUSE_WORDS_2.sq w_HOUSE_WORDS_2,
    _,
    x_HOUSE_WORDS_3.sq w_HOUSE_WORDS_3,
    _,
    PySem.W.mg_of X G v_HOUSE_WORDS,
    x_HOUSE_WORDS.sq w_HOUSE_WORDS,
    _,
    x_ROW_WORDS_0.sq w_ROW_WORDS_0,
    _,
    x_ROW_WORDS_1.sq w_ROW_WORDS_1,
    _,
    x_ROW_WORDS_2.sq w_ROW_WORDS_2,
    _,
    PySem.W.mg_of X G v_ROW_WORDS,
    x_ROW_WORDS.sq w_ROW_WORDS,
    _,
    PySem.W.mg_of X G v_LAG_PLACE,
    _,
    PySem.W.mg_of X G v_ROW_PLACES,
    x_ROW_PLACES.sq w_ROW_PLACES,
    PySem.W.mg_none_of X G z_ValueError,
    PySem.W.mg_none_of X G z_abs,
    PySem.W.mg_none_of X G z_bool,
    PySem.W.mg_none_of X G z_e,
    PySem.W.mg_none_of X G z_enumerate,
    PySem.W.mg_none_of X G z_int,
    PySem.W.mg_none_of X G z_isinstance,
    PySem.W.mg_none_of X G z_len,
    PySem.W.mg_none_of X G z_list,
    PySem.W.mg_none_of X G z_max,
    PySem.W.mg_none_of X G z_min,
    PySem.W.mg_none_of X G z_range,
    PySem.W.mg_none_of X G z_repr,
    PySem.W.mg_none_of X G z_str,
    PySem.W.mg_none_of X G z_tuple,
    _,
    _,
    _,
    _,
    FIBadText,
    FIBadText.binds (ps := ["self", "line", "word"]) fun _ _ _ _ _ _ us hl => match us, hl with | [_, _, _], _ => rfl,
    ⟨PySem.W.mg_of X G eC_BadText, PySem.W.mg_of X G eB_BadText, ⟨⟨_, _, _, _, _, _, _, _, _, _, _, _, _, _, _, eL_BadText, eR_BadText⟩, eS_BadText, eE_BadText, eM_BadText, eK_BadText⟩, ⟨eG_BadText, eH_BadText, eE_BadText, eD_BadText⟩, ⟨eG_BadText, eH_BadText, eE_BadText, eD_BadText, eN_BadText, eO_BadText, eQ_BadText, eU_BadText⟩, eI_BadText, eT_BadText, eF_BadText, eW_BadText, exm_self eE_BadText eJ_BadText eM_BadText eP_BadText, kit_ref eV_BadText fA_BadText fB_BadText, kit_VE fC_BadText⟩⟩
  refine ⟨_, T.tabs, fun_mk (st := s_law) l30 c30 k30, fun s u => .of_eq rfl, fun p hp => ?_, fun base _ hb => law_does T hb⟩
  have hp' : p ∈ [(cc5, pp5)] := hp
  rcases List.mem_cons.mp hp' with rfl | hp'
  · exact tab_mk X (PySem.W.mg_of X G a5) l5 rfl rfl u5 v5 y5 tk5
  exact absurd hp' List.not_mem_nil
end Qu
open PySem PySem.W PyProof.Rows
set_option maxRecDepth 100000 in
set_option maxHeartbeats 0 in
theorem PySem.Challenge.cw_sentnext_k55_wrong_words_of_texts_holds : PySem.Challenge.rw_sentnext_k55_wrong_words_of_texts.Holds := by
  w_on; o_law; k_head; (case hw => w_witness2)
  k_fill
  refine Qu.law_walkT (l := PySem.Challenge.rw_sentnext_k55_wrong_words_of_texts) (x := "_law_script") (N := ["_law_script", "_law_deck_here", "_law_turn", "_law_rows", "_law_k", "_law_bent", "_law_more", "_law_text_here"]) (nms := ["house_of"]) rfl rfl Qu.sc_law (fun w h Y => PySem.W.kIn_of Y) (by decide +kernel) ?F
  case F =>
    intro w mg fa h KX G hmg hck
    refine' Qu.all_mk KX G hmg ?a0 ?l0 ?c0 ?k0 ?a1 ?l1 ?c1 ?k1 ?a2 ?l2 ?c2 ?k2 ?a3 ?l3 ?c3 ?k3 ?a4 ?l4 ?c4 ?k4 ?a5 ?l5 ?c5 ?k5 ?u5 ?v5 ?y5 ?tk5 ?a6 ?l6 ?c6 ?k6 ?a7 ?l7 ?c7 ?k7 ?a8 ?l8 ?c8 ?k8 ?a9 ?l9 ?c9 ?k9 ?a10 ?l10 ?c10 ?k10 ?a11 ?l11 ?c11 ?k11 ?a12 ?l12 ?c12 ?k12 ?a13 ?l13 ?c13 ?k13 ?a14 ?l14 ?c14 ?k14 ?a15 ?l15 ?c15 ?k15 ?a16 ?l16 ?c16 ?k16 ?a17 ?l17 ?c17 ?k17 ?a18 ?l18 ?c18 ?k18 ?a19 ?l19 ?c19 ?k19 ?a20 ?l20 ?c20 ?k20 ?a21 ?l21 ?c21 ?k21 ?a22 ?l22 ?c22 ?k22 ?a23 ?l23 ?c23 ?k23 ?a24 ?l24 ?c24 ?k24 ?a25 ?l25 ?c25 ?k25 ?a26 ?l26 ?c26 ?k26 ?a27 ?l27 ?c27 ?k27 ?a28 ?l28 ?c28 ?k28 ?a29 ?l29 ?c29 ?k29 ?a30 ?l30 ?c30 ?k30 ?v_MOST_HEADS ?v_MOST_ROWS ?v_HOUSE_WORDS ?w_HOUSE_WORDS ?x_HOUSE_WORDS ?w_HOUSE_WORDS_0 ?x_HOUSE_WORDS_0 ?w_HOUSE_WORDS_1 ?x_HOUSE_WORDS_1 ?w_HOUSE_WORDS_2 ?x_HOUSE_WORDS_2 ?w_HOUSE_WORDS_3 ?x_HOUSE_WORDS_3 ?v_ROW_WORDS ?w_ROW_WORDS ?x_ROW_WORDS ?w_ROW_WORDS_0 ?x_ROW_WORDS_0 ?w_ROW_WORDS_1 ?x_ROW_WORDS_1 ?w_ROW_WORDS_2 ?x_ROW_WORDS_2 ?v_LAG_PLACE ?v_ROW_PLACES ?w_ROW_PLACES ?x_ROW_PLACES ?z_ValueError ?z_abs ?z_bool ?z_e ?z_enumerate ?z_int ?z_isinstance ?z_len ?z_list ?z_max ?z_min ?z_range ?z_repr ?z_str ?z_tuple ?eC_BadText ?eB_BadText ?eL_BadText ?eR_BadText ?eS_BadText ?eG_BadText ?eH_BadText ?eF_BadText ?eW_BadText ?eI_BadText ?eT_BadText ?eX_BadText ?eY_BadText ?eZ_BadText ?eK_BadText ?eE_BadText ?eM_BadText ?eD_BadText ?eJ_BadText ?eP_BadText ?eN_BadText ?eO_BadText ?eQ_BadText ?eU_BadText ?eV_BadText ?fA_BadText ?fB_BadText ?fC_BadText
    (case a0 => k_is)
    (case l0 => k_is)
    (case c0 => k_is)
    (case k0 => k_is)
    (case a1 => k_is)
    (case l1 => k_is)
    (case c1 => k_is)
    (case k1 => k_is)
    (case a2 => k_is)
    (case l2 => k_is)
    (case c2 => k_is)
    (case k2 => k_is)
    (case a3 => k_is)
    (case l3 => k_is)
    (case c3 => k_is)
    (case k3 => k_is)
    (case a4 => k_is)
    (case l4 => k_is)
    (case c4 => k_is)
    (case k4 => k_is)
    (case a5 => k_is)
    (case l5 => k_is)
    (case c5 => k_is)
    (case k5 => k_is)
    (case u5 => k_is)
    (case v5 => exact ⟨_, rfl, rfl⟩)
    (case y5 => rfl)
    (case tk5 => exact hck "house_of" (by simp))
    (case a6 => k_is)
    (case l6 => k_is)
    (case c6 => k_is)
    (case k6 => k_is)
    (case a7 => k_is)
    (case l7 => k_is)
    (case c7 => k_is)
    (case k7 => k_is)
    (case a8 => k_is)
    (case l8 => k_is)
    (case c8 => k_is)
    (case k8 => k_is)
    (case a9 => k_is)
    (case l9 => k_is)
    (case c9 => k_is)
    (case k9 => k_is)
    (case a10 => k_is)
    (case l10 => k_is)
    (case c10 => k_is)
    (case k10 => k_is)
    (case a11 => k_is)
    (case l11 => k_is)
    (case c11 => k_is)
    (case k11 => k_is)
    (case a12 => k_is)
    (case l12 => k_is)
    (case c12 => k_is)
    (case k12 => k_is)
    (case a13 => k_is)
    (case l13 => k_is)
    (case c13 => k_is)
    (case k13 => k_is)
    (case a14 => k_is)
    (case l14 => k_is)
    (case c14 => k_is)
    (case k14 => k_is)
    (case a15 => k_is)
    (case l15 => k_is)
    (case c15 => k_is)
    (case k15 => k_is)
    (case a16 => k_is)
    (case l16 => k_is)
    (case c16 => k_is)
    (case k16 => k_is)
    (case a17 => k_is)
    (case l17 => k_is)
    (case c17 => k_is)
    (case k17 => k_is)
    (case a18 => k_is)
    (case l18 => k_is)
    (case c18 => k_is)
    (case k18 => k_is)
    (case a19 => k_is)
    (case l19 => k_is)
    (case c19 => k_is)
    (case k19 => k_is)
    (case a20 => k_is)
    (case l20 => k_is)
    (case c20 => k_is)
    (case k20 => k_is)
    (case a21 => k_is)
    (case l21 => k_is)
    (case c21 => k_is)
    (case k21 => k_is)
    (case a22 => k_is)
    (case l22 => k_is)
    (case c22 => k_is)
    (case k22 => k_is)
    (case a23 => k_is)
    (case l23 => k_is)
    (case c23 => k_is)
    (case k23 => k_is)
    (case a24 => k_is)
    (case l24 => k_is)
    (case c24 => k_is)
    (case k24 => k_is)
    (case a25 => k_is)
    (case l25 => k_is)
    (case c25 => k_is)
    (case k25 => k_is)
    (case a26 => k_is)
    (case l26 => k_is)
    (case c26 => k_is)
    (case k26 => k_is)
    (case a27 => k_is)
    (case l27 => k_is)
    (case c27 => k_is)
    (case k27 => k_is)
    (case a28 => k_is)
    (case l28 => k_is)
    (case c28 => k_is)
    (case k28 => k_is)
    (case a29 => k_is)
    (case l29 => k_is)
    (case c29 => k_is)
    (case k29 => k_is)
    (case a30 => k_is)
    (case l30 => k_is)
    (case c30 => k_is)
    (case k30 => k_is)
    (case v_MOST_HEADS => k_is)
    (case v_MOST_ROWS => k_is)
    (case v_HOUSE_WORDS => k_is)
    (case w_HOUSE_WORDS => k_is)
    (case x_HOUSE_WORDS => exact ⟨_, _, rfl, rfl, by decide, .cons rfl (.cons rfl (.cons rfl (.cons rfl (.nil))))⟩)
    (case w_HOUSE_WORDS_0 => k_is)
    (case x_HOUSE_WORDS_0 => exact ⟨_, _, rfl, rfl, by decide, .cons ⟨_, rfl⟩ (.nil)⟩)
    (case w_HOUSE_WORDS_1 => k_is)
    (case x_HOUSE_WORDS_1 => exact ⟨_, _, rfl, rfl, by decide, .cons ⟨_, rfl⟩ (.cons ⟨_, rfl⟩ (.cons ⟨_, rfl⟩ (.nil)))⟩)
    (case w_HOUSE_WORDS_2 => k_is)
    (case x_HOUSE_WORDS_2 => exact ⟨_, _, rfl, rfl, by decide, .cons ⟨_, rfl⟩ (.cons ⟨_, rfl⟩ (.cons ⟨_, rfl⟩ (.cons ⟨_, rfl⟩ (.cons ⟨_, rfl⟩ (.cons ⟨_, rfl⟩ (.nil))))))⟩)
    (case w_HOUSE_WORDS_3 => k_is)
    (case x_HOUSE_WORDS_3 => exact ⟨_, _, rfl, rfl, by decide, .cons ⟨_, rfl⟩ (.cons ⟨_, rfl⟩ (.cons ⟨_, rfl⟩ (.cons ⟨_, rfl⟩ (.nil))))⟩)
    (case v_ROW_WORDS => k_is)
    (case w_ROW_WORDS => k_is)
    (case x_ROW_WORDS => exact ⟨_, _, rfl, rfl, by decide, .cons rfl (.cons rfl (.cons rfl (.nil)))⟩)
    (case w_ROW_WORDS_0 => k_is)
    (case x_ROW_WORDS_0 => exact ⟨_, _, rfl, rfl, by decide, .cons ⟨_, rfl⟩ (.cons ⟨_, rfl⟩ (.cons ⟨_, rfl⟩ (.nil)))⟩)
    (case w_ROW_WORDS_1 => k_is)
    (case x_ROW_WORDS_1 => exact ⟨_, _, rfl, rfl, by decide, .cons ⟨_, rfl⟩ (.cons ⟨_, rfl⟩ (.cons ⟨_, rfl⟩ (.cons ⟨_, rfl⟩ (.cons ⟨_, rfl⟩ (.cons ⟨_, rfl⟩ (.nil))))))⟩)
    (case w_ROW_WORDS_2 => k_is)
    (case x_ROW_WORDS_2 => exact ⟨_, _, rfl, rfl, by decide, .cons ⟨_, rfl⟩ (.cons ⟨_, rfl⟩ (.cons ⟨_, rfl⟩ (.cons ⟨_, rfl⟩ (.cons ⟨_, rfl⟩ (.cons ⟨_, rfl⟩ (.nil))))))⟩)
    (case v_LAG_PLACE => k_is)
    (case v_ROW_PLACES => k_is)
    (case w_ROW_PLACES => k_is)
    (case x_ROW_PLACES => exact ⟨_, _, rfl, rfl, by decide, .cons ⟨_, rfl⟩ (.cons ⟨_, rfl⟩ (.nil))⟩)
    (case z_ValueError => k_is)
    (case z_abs => k_is)
    (case z_bool => k_is)
    (case z_e => k_is)
    (case z_enumerate => k_is)
    (case z_int => k_is)
    (case z_isinstance => k_is)
    (case z_len => k_is)
    (case z_list => k_is)
    (case z_max => k_is)
    (case z_min => k_is)
    (case z_range => k_is)
    (case z_repr => k_is)
    (case z_str => k_is)
    (case z_tuple => k_is)
    (case eC_BadText => k_is)
    (case eB_BadText => k_is)
    (case eL_BadText => k_is)
    (case eR_BadText => decide +kernel)
    (case eS_BadText => k_is)
    (case eG_BadText => k_is)
    (case eH_BadText => k_is)
    (case eF_BadText => k_is)
    (case eW_BadText => k_is)
    (case eI_BadText => k_is)
    (case eT_BadText => k_is)
    (case eX_BadText => k_is)
    (case eY_BadText => k_is)
    (case eZ_BadText => k_is)
    (case eK_BadText => k_is)
    (case eE_BadText => k_is)
    (case eM_BadText => k_is)
    (case eD_BadText => k_is)
    (case eJ_BadText => k_is)
    (case eP_BadText => k_is)
    (case eN_BadText => k_is)
    (case eO_BadText => k_is)
    (case eQ_BadText => k_is)
    (case eU_BadText => k_is)
    (case eV_BadText => k_is)
    (case fA_BadText => k_is)
    (case fB_BadText => k_is)
    (case fC_BadText => k_is)
